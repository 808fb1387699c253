/-
  MergeTwice: the law's own walk.
-/
import Derived.Test.YtnahjaloodeicaaGreatMergeTwiceCut11
import Derived.Deep.CutRange
import Derived.Laws.AppendOwnNone
namespace Go.Proofs.YtnahjaloodeicaaGreat
set_option maxRecDepth 100000
open Go.RowKit Go.Deep

/-- 'append(row, l...)' at a step of a region that draws: the row is the call's own, l may be nil. -/
theorem step_append_kl {α : Type} {f : α → List Value} {k : Nat} {P : Program} {ops : Array Oper} {o : Oper} {a : Act} {K : Act → World → Prop} {Q : Exit → Act → World → Prop} {E : Prop} {wr : World} (hgd : o.guard = none) (s x : Operand) (t : TypeId)
    (ho : o.op = .call { callee := .builtin .append, args := #[s, x], argTypes := #[t, t] }) {B : Nat} {e : TypeId} {i : TypeInfo} {z : Value} {bytes : Nat}
    (ht : P.underlying t = some (.slice e)) (hi : P.info? e = some i) (hz : i.zero = some z) (hsize : i.size = k) (hby : i.bytes = bytes) (hzs : z.cells.size = k) (hk0 : 0 < k)
    (hk : ∀ y, (f y).length = k) (hf : ∀ y, ∀ u ∈ f y, u.oneCell' = true) {pre zs : List α} {v u : Value} (hs : a.eval s = v) (hx : a.eval x = u) (hu : Kl f k wr u zs)
    (hown : wr.ownsRow B e k v pre.length (pre.flatMap f)) (hB : B ≤ wr.heap.size) (hlen : pre.length + zs.length ≤ 4294967296) (hb8 : bytes ≤ 128)
    (h : ∀ v' w', w'.ownsRow B e k v' (pre ++ zs).length ((pre ++ zs).flatMap f) → wr.grownBy w' v.ownBlock → K (a.put o.dst v') w') :
    if Region.wanted o (yielded ops a.tmps) = true then Oper.wp P o a wr K Q else E := by
  have hw : Region.wanted o (yielded ops a.tmps) = true := by simp [Region.wanted, hgd]
  rw [if_pos hw]
  obtain ⟨ao, cap, rfl, hl, hm, hn, hc⟩ := hu
  cases ao with
  | none =>
    have hcap := hn rfl
    subst hcap
    have hz0 : zs = [] := List.eq_nil_of_length_eq_zero (by omega)
    subst hz0
    have hrun := run_append_owned_none (P := P) (w := wr) B t o.type e i k ht hi v pre.length _ hown
    have hx' : a.eval x = .slice none 0 0 := hx
    unfold Oper.wp
    simp [execOp, ho, resolve, invoke, builtin, hs, hx', hrun, Result.andThen]
    exact h v wr (by simpa using hown) ⟨rfl, rfl, rfl, Nat.le_refl _, fun _ _ _ => rfl⟩
  | some ad =>
    refine wp_append_own wr s x t ho B e i z k bytes ht hi hz hsize hby hzs hk0 v pre.length _ hs hown ad zs.length cap (zs.flatMap f) hx (flat_len hk zs) ?_ ?_ ?_ ?_ hB ?_
    · intro j y hj
      obtain ⟨i', y', r, h1, h2, rfl⟩ := flat_inv hk hj
      exact hc ad rfl i' y' h1 r y h2
    · intro u hu
      obtain ⟨y, _, hy⟩ := List.mem_flatMap.1 hu
      exact hf y u hy
    · unfold maxLen; omega
    · have h1 : (pre.length + zs.length) * bytes ≤ 4294967296 * 128 := Nat.mul_le_mul hlen hb8
      omega
    · intro v' w1 hown' hg _
      exact h v' w1 (by simpa using hown') hg

theorem twice_new {n : Nat} (h : n ≤ 64) : L.new (n : Int) = List.replicate n true := by
  rw [new_fill _ h, List.eq_replicate_iff]
  simp
theorem FewM.take {l : List G.Sq} {ls : List (List Bool)} (h : FewM l ls) (n : Nat) : FewM (l.take n) (ls.take n) :=
  ⟨by have := h.1; simp; omega, by have := h.2.1; simp; omega, fun s hs => h.2.2 s (List.mem_of_mem_take hs)⟩
theorem big_may {s : Sg} {so : Bool} (hM : MayP s so) : (∀ x ∈ s.ids, x.size ≤ maxLen) ∧ s.ts.length ≤ 3518437208780 := by
  refine ⟨fun x hx => ?_, ?_⟩
  · obtain ⟨d, hd, e⟩ := List.mem_iff_getElem.1 hx
    have n1 := hM.heads.nk
    have n2 := hM.heads.nl
    have := hM.heads.head d x _ _ (by rw [List.getElem?_eq_getElem hd, e]) (List.getElem?_eq_getElem (by omega)) (List.getElem?_eq_getElem (by omega))
    simp only [S.head, Bool.and_eq_true, decide_eq_true_eq] at this
    unfold maxLen
    omega
  · have := D.may_len hM.words
    rw [List.length_map] at this
    omega
theorem twice_big {s : Sg} {so : Bool} {l : List G.Sq} {ls : List (List Bool)} (hM : MayP s so) (h : FewM l ls) (n : Nat) : Big ((s, so) :: l.drop n) := fun u hu => by
  rcases List.mem_cons.1 hu with rfl | hu
  · exact big_may hM
  · exact h.big u (List.mem_of_mem_drop hu)
theorem twice_len {s : G.Sq} {l : List G.Sq} {ls : List (List Bool)} (h : FewM l ls) (n : Nat) : (s :: l.drop n).length ≤ 7 := by
  have := h.1
  simp
  omega
theorem twice_left {s : G.Sq} {r : List Bool} {l : List G.Sq} {ls : List (List Bool)} (h : FewM l ls) (n : Nat) (hR : G.Right (s :: l.drop n) (r :: ls.drop n)) : (G.left (s :: l.drop n) (r :: ls.drop n)).length ≤ 4294967295 := by
  have := G.left_le hR
  have := twice_len (s := s) h n
  omega
theorem Tryz.infoBl : (Tryz.prog.info? 38).map (fun i => (i.zero, i.size, i.bytes)) = some (some (.slice none 0 0), 1, 24) := by kernel_rfl
/-- A list, and those behind it, in a row of the call's own. -/
theorem Bll.row {w : World} {B : Nat} {e : TypeId} {v : Value} {x : Pts} {us : List Pts} {r : List Bool} {ls : List (List Bool)} {n : Nat} (h : w.ownsRow B e 1 v n (([x] ++ us).flatMap fun y => [sv y])) (hl : us.length = ls.length) (h0 : Gl .bool w (sv x) r) (hS : ∀ (i : Nat) (s : Pts) (l : List Bool), us[i]? = some s → ls[i]? = some l → Gl .bool w (sv s) l) : Bll w v (r :: ls) :=
  ⟨[x] ++ us, (Kl.owned (k := 1) (f := fun y : Pts => [sv y]) (fun _ => rfl) (by decide) h).gl, by simp [hl], fun i s l h1 h2 => by
    match i, h1, h2 with
    | 0, h1, h2 =>
      simp at h1 h2
      subst h1 h2
      exact h0
    | i + 1, h1, h2 => exact hS i s l (by simpa using h1) (by simpa using h2)⟩
/-- A segment, and those behind it, in a row of the call's own. -/
theorem Gs.row {w : World} {B : Nat} {e : TypeId} {v : Value} {n : Nat} {ps : List (G.Sq × Qd)} (h : w.ownsRow B e 5 v n (ps.flatMap encG)) (hS : ∀ p ∈ ps, Sv w (sv p.2.1) (sv p.2.2.1) (sv p.2.2.2.1) (sv p.2.2.2.2) p.1.1) : Gs w v (ps.map (·.1)) :=
  ⟨ps, Kl.owned encG_len (by decide) h, rfl, hS⟩

set_option linter.unusedSimpArgs false in
set_option maxRecDepth 100000 in
set_option maxHeartbeats 16000000 in
theorem mergeTwice_walk (v u : Value) (l : List G.Sq) (ls : List (List Bool)) (so : Bool) (n : Int) (w : World) (hl : Gs w v l) (hb : Bll w u ls) :
    Calls Tryz.prog 4 #[v, u, .bool so, .int .i64 n] w fun e w' => e = .returned (.bool true) ∧ Below w.heap.size w w' := by
  have CA := awakeM_any w
  have HG := hide hl
  have HB := hide hb
  obtain ⟨a, cap, rfl, hc1, hc2, hc3, -⟩ := hl.open
  obtain ⟨a2, cap2, rfl, hd1, hd2, -⟩ := hb.at
  have HC1 := hide hc1
  have HD1 := hide hd1
  clear hl hb hc1 hd1 hc3
  go_enter Tryz.func4, Tryz.ntmps4
  go_wp2_with fail
  refine CA.mono ?_
  rintro e w1 ⟨rfl, B1⟩
  have CF := fewM_any _ _ l ls w1 ((unhide HG).below B1) ((unhide HB).below B1)
  clear CA
  go_wp2_with fail
  refine CF.mono ?_
  rintro e w2 ⟨r1, rfl, hr1, B2⟩
  have BB2 := below_trans' B1 B2
  clear CF B1 B2
  cases r1 with
  | false =>
    clear hr1
    go_wp2
    go_ret
    exact ⟨rfl, BB2⟩
  | true =>
    have HF := hide (hr1 rfl)
    clear hr1
    by_cases n0 : n < 0
    · go_wp2
      go_ret
      exact ⟨rfl, BB2⟩
    obtain ⟨n, rfl⟩ := Int.eq_ofNat_of_zero_le (show 0 ≤ n by omega)
    by_cases n1 : (l.length : Int) < (n : Int)
    · go_wp2
      go_ret
      exact ⟨rfl, BB2⟩
    by_cases n2 : l.length = ls.length
    case neg =>
      have q1 : ((l.length : Int) != (ls.length : Int)) = true := by simpa using fun h : (l.length : Int) = ls.length => n2 (by omega)
      clear n2
      go_wp2
      go_ret
      exact ⟨rfl, BB2⟩
    case pos =>
    have q1 : ((l.length : Int) != (ls.length : Int)) = false := by rw [n2]; simp
    have HN2 := hide n2
    have CM := mergeM_any _ _ l ls so w2 ((unhide HG).below BB2) ((unhide HB).below BB2) (unhide HF).big (unhide HF).len (unhide HF).left
    clear n2
    go_wp2_with fail
    refine CM.mono ?_
    rintro e w3 h3
    obtain ⟨ja, jb, jc, jd, m1, m2, m3, m4, jia, jib, jic, jid, jv, jb0, jn, rfl, R3, T3, -, ⟨t1, t2, t3, rfl⟩, B3⟩ := h3.ret
    have BB3 := below_trans' BB2 B3
    clear CM h3 B3 BB2 T3 q1
    obtain ⟨p3, hp3⟩ : ∃ p3, w3.heap.size = p3 := ⟨_, rfl⟩
    obtain ⟨w4, hw4⟩ : ∃ w4, w4 = w3.alloc (.cells #[.slice ja m1 jia, .slice jb m2 jib, .slice jc m3 jic, .slice jd m4 jid, .bool jb0] 30) := ⟨_, rfl⟩
    have B4 : Below w3.heap.size w3 w4 := by rw [hw4]; exact below_alloc _ _
    have X4 : w4.heap[p3]? = some (.cells #[.slice ja m1 jia, .slice jb m2 jib, .slice jc m3 jic, .slice jd m4 jid, .bool jb0] 30 (0, 0)) := by rw [hw4, ← hp3]; exact heap_alloc_new w3 _
    have BB4 := below_trans' BB3 B4
    have hnl : n ≤ l.length := by omega
    have hcn : n ≤ cap := by have := unhide HC1; omega
    have hdn : n ≤ cap2 := by have := unhide HD1; have := unhide HN2; omega
    have hdl : n ≤ ls.length := by have := unhide HN2; omega
    have HBB4 := hide BB4
    have HX4 := hide X4
    have HG4 := hide ((unhide HG).below BB4)
    have HB4 := hide ((unhide HB).below BB4)
    have HR4 := hide (R3.below B4)
    have HP3 := hide hp3
    have HW4 := hide hw4
    obtain ⟨x1, y1, z1, hs1⟩ : ∃ x y z, sliced a 0 n cap 5 = .slice x y z := ⟨_, _, _, rfl⟩
    obtain ⟨x2, y2, z2, hs2⟩ : ∃ x y z, sliced a2 0 n cap2 1 = .slice x y z := ⟨_, _, _, rfl⟩
    have RU1 : ∀ w : World, (Instr.slice 22 (.slice a l.length cap) none (some (.int .i64 n)) none).run Tryz.prog w = .ok (.slice x1 y1 z1) w := fun w => by rw [← hs1]; exact run_gs_to a l.length cap n hcn w
    have RU2 : ∀ w : World, (Instr.slice 23 (.slice a2 ls.length cap2) none (some (.int .i64 n)) none).run Tryz.prog w = .ok (.slice x2 y2 z2) w := fun w => by rw [← hs2]; exact run_bl_to a2 ls.length cap2 n hdn w
    have FG4 := Gs.cut (unhide HG4) 0 n (Nat.zero_le _) hnl
    have FB4 := Bll.cut (unhide HB4) 0 n (Nat.zero_le _) hdl
    rw [hs1, List.drop_zero, Nat.sub_zero] at FG4
    rw [hs2, List.drop_zero, Nat.sub_zero] at FB4
    have HFG := hide FG4
    have HFB := hide FB4
    have HNL := hide hnl
    have HDL := hide hdl
    clear R3 B4 X4 BB3 BB4 hp3 hw4 hs1 hs2 FG4 FB4 hnl hcn hdn hdl n1
    go_upto_region 6 with fail
    go_cut [14, 15, 16] from 58 to 69 (fun p14 p15 p16 wx => ∃ (g : Nat) (ka kb kc kd : Option Addr) (n1 n2 n3 n4 kia kib kic kid : Nat) (kv : Value) (kb0 : Bool) (kn : Int), p14 = .pointer (some ⟨g, 0, none⟩) ∧ p15 = kv ∧ p16 = .int .i64 kn ∧ wx.heap[g]? = some (.cells #[.slice ka n1 kia, .slice kb n2 kib, .slice kc n3 kic, .slice kd n4 kid, .bool kb0] 30 (0, 0)) ∧
      RetG wx (l.take n) (ls.take n) so (.slice ka n1 kia) (.slice kb n2 kib) (.slice kc n3 kic) (.slice kd n4 kid) kb0 kn ∧ (∃ a c d, kv = .slice a c d) ∧ Below w4.heap.size w4 wx)
    case first =>
      rw [← unhide HW4]
      refine wp_region_held_drew (S := fun w' => Below w4.heap.size w4 w') (by kernel_rfl) (Below.refl _ _).drew (fun hH => ?_)
      obtain ⟨u0, hu0⟩ : ∃ u0, u0 = w4.drew := ⟨_, rfl⟩
      rw [← hu0] at hH ⊢
      have FG : Gs u0 (.slice x1 y1 z1) (l.take n) := (unhide HFG).below hH
      have FB : Bll u0 (.slice x2 y2 z2) (ls.take n) := (unhide HFB).below hH
      clear hu0
      refine takeH11 (i := 0) (d := some 59) (v := .slice a l.length cap) rfl rfl (by kernel_rfl) (by kernel_rfl) (by kernel_rfl) (fun _ _ _ h => h) (Or.inl ⟨by rfl, fun w9 hSw => ?_⟩) hH ?_
      · (try dsimp only at hSw); go_simp
      conv => arg 8; simp only [Act.put, List.setIfInBounds_toArray, List.set_cons_zero, List.set_cons_succ]
      refine takeH11 (i := 1) (d := some 60) (v := .int .i64 n) rfl rfl (by kernel_rfl) (by kernel_rfl) (by kernel_rfl) (fun _ _ _ h => h) (Or.inl ⟨by rfl, fun w9 hSw => ?_⟩) hH ?_
      · (try dsimp only at hSw); go_simp
      conv => arg 8; simp only [Act.put, List.setIfInBounds_toArray, List.set_cons_zero, List.set_cons_succ]
      refine takeH11 (i := 2) (d := some 61) (v := .slice x1 y1 z1) rfl rfl (by kernel_rfl) (by kernel_rfl) (by kernel_rfl) (fun _ _ _ h => h) (Or.inl ⟨by rfl, fun w9 hSw => ?_⟩) hH ?_
      · (try dsimp only at hSw); go_simp
      conv => arg 8; simp only [Act.put, List.setIfInBounds_toArray, List.set_cons_zero, List.set_cons_succ]
      refine takeH11 (i := 3) (d := some 62) (v := .slice a2 ls.length cap2) rfl rfl (by kernel_rfl) (by kernel_rfl) (by kernel_rfl) (fun _ _ _ h => h) (Or.inl ⟨by rfl, fun w9 hSw => ?_⟩) hH ?_
      · (try dsimp only at hSw); go_simp
      conv => arg 8; simp only [Act.put, List.setIfInBounds_toArray, List.set_cons_zero, List.set_cons_succ]
      refine takeH11 (i := 4) (d := some 63) (v := .int .i64 n) rfl rfl (by kernel_rfl) (by kernel_rfl) (by kernel_rfl) (fun _ _ _ h => h) (Or.inl ⟨by rfl, fun w9 hSw => ?_⟩) hH ?_
      · (try dsimp only at hSw); go_simp
      conv => arg 8; simp only [Act.put, List.setIfInBounds_toArray, List.set_cons_zero, List.set_cons_succ]
      refine takeH11 (i := 5) (d := some 64) (v := .slice x2 y2 z2) rfl rfl (by kernel_rfl) (by kernel_rfl) (by kernel_rfl) (fun _ _ _ h => h) (Or.inl ⟨by rfl, fun w9 hSw => ?_⟩) hH ?_
      · (try dsimp only at hSw); go_simp
      conv => arg 8; simp only [Act.put, List.setIfInBounds_toArray, List.set_cons_zero, List.set_cons_succ]
      refine takeH11 (i := 6) (d := some 65) (v := .bool so) rfl rfl (by kernel_rfl) (by kernel_rfl) (by kernel_rfl) (fun _ _ _ h => h) (Or.inl ⟨by rfl, fun w9 hSw => ?_⟩) hH ?_
      · (try dsimp only at hSw); go_simp
      conv => arg 8; simp only [Act.put, List.setIfInBounds_toArray, List.set_cons_zero, List.set_cons_succ]
      refine wpAnyH_ready (rs := [7, 12]) (by kernel_rfl) (by simp) ?_
      refine AllReadyH.cons rfl (fun K hK => ?_) ?_
      · skip
        go_simp
        refine (mergeM_any _ _ (l.take n) (ls.take n) so u0 FG FB ((unhide HF).take n).big ((unhide HF).take n).len ((unhide HF).take n).left).mono ?_
        rintro e9 u1 h9
        obtain ⟨ka, kb, kc, kd, n1, n2, n3, n4, kia, kib, kic, kid, kv, kb0, kn, rfl, FR, -, -, ⟨kt1, kt2, kt3, rfl⟩, BA⟩ := h9.ret
        have A9 := below_trans' hH BA
        clear BA h9 FG FB
        refine hK.out _ _ (A9) (fun hH9 => ?_)
        clear hH
        have hH := hH9
        clear hH9 hK K
        try (conv => arg 8; simp only [Act.put, List.setIfInBounds_toArray, List.set_cons_zero, List.set_cons_succ])
        clear A9
        refine takeH11 (i := 8) (d := some 58) (v := .tuple #[.agg #[.slice ka n1 kia, .slice kb n2 kib, .slice kc n3 kic, .slice kd n4 kid, .bool kb0], .slice kt1 kt2 kt3, .int .i64 kn]) rfl rfl (by kernel_rfl) (by kernel_rfl) (by kernel_rfl) (fun _ _ _ h => h) (Or.inl ⟨by rfl, fun w9 hSw => ?_⟩) hH ?_
        · (try dsimp only at hSw); go_simp
        conv => arg 8; simp only [Act.put, List.setIfInBounds_toArray, List.set_cons_zero, List.set_cons_succ]
        refine takeH11 (i := 9) (d := some 67) (v := .agg #[.slice ka n1 kia, .slice kb n2 kib, .slice kc n3 kic, .slice kd n4 kid, .bool kb0]) rfl rfl (by kernel_rfl) (by kernel_rfl) (by kernel_rfl) (fun _ _ _ h => h) (Or.inl ⟨by rfl, fun w9 hSw => ?_⟩) hH ?_
        · (try dsimp only at hSw); go_simp
        conv => arg 8; simp only [Act.put, List.setIfInBounds_toArray, List.set_cons_zero, List.set_cons_succ]
        refine takeH11 (i := 10) (d := some 68) (v := .slice kt1 kt2 kt3) rfl rfl (by kernel_rfl) (by kernel_rfl) (by kernel_rfl) (fun _ _ _ h => h) (Or.inl ⟨by rfl, fun w9 hSw => ?_⟩) hH ?_
        · (try dsimp only at hSw); go_simp
        conv => arg 8; simp only [Act.put, List.setIfInBounds_toArray, List.set_cons_zero, List.set_cons_succ]
        refine takeH11 (i := 11) (d := some 69) (v := .int .i64 kn) rfl rfl (by kernel_rfl) (by kernel_rfl) (by kernel_rfl) (fun _ _ _ h => h) (Or.inl ⟨by rfl, fun w9 hSw => ?_⟩) hH ?_
        · (try dsimp only at hSw); go_simp
        conv => arg 8; simp only [Act.put, List.setIfInBounds_toArray, List.set_cons_zero, List.set_cons_succ]
        refine wpAnyH_ready (rs := [12]) (by kernel_rfl) (by simp) ?_
        refine AllReadyH.cons rfl (fun K hK => ?_) AllReadyH.nil
        go_simp
        have FX := heap_alloc_new u1 (.cells #[.slice none 0 0, .slice none 0 0, .slice none 0 0, .slice none 0 0, .bool false] 30)
        have BA := below_alloc u1 (.cells #[.slice none 0 0, .slice none 0 0, .slice none 0 0, .slice none 0 0, .bool false] 30)
        obtain ⟨u2, hu⟩ : ∃ u2, u2 = u1.alloc (.cells #[.slice none 0 0, .slice none 0 0, .slice none 0 0, .slice none 0 0, .bool false] 30) := ⟨_, rfl⟩
        rw [← hu] at FX BA ⊢
        obtain ⟨g, hk9⟩ : ∃ g, u1.heap.size = g := ⟨_, rfl⟩
        have hg4 : w4.heap.size ≤ g := by rw [← hk9]; exact hH.size
        rw [hk9] at FX
        simp only [hk9]
        obtain ⟨uB, huB⟩ : ∃ uB, uB = u1 := ⟨_, rfl⟩
        have hgB : uB.heap.size ≤ g := by rw [huB, hk9]; exact Nat.le_refl _
        have hBA : Below uB.heap.size uB u2 := by rw [huB]; exact BA
        rw [← huB] at FR
        clear huB
        have A9 := below_trans' hH BA
        clear hu hk9 BA
        refine hK.out _ _ (A9) (fun hH9 => ?_)
        clear hH
        have hH := hH9
        clear hH9 hK K
        try (conv => arg 8; simp only [Act.put, List.setIfInBounds_toArray, List.set_cons_zero, List.set_cons_succ])
        clear A9
        refine wpAnyH_ready (rs := [13]) (by kernel_rfl) (by simp) ?_
        refine AllReadyH.cons rfl (fun K hK => ?_) AllReadyH.nil
        have s0 := box_cell FX (j := 0) rfl
        have s1 := box_cell FX (j := 1) rfl
        have s2 := box_cell FX (j := 2) rfl
        have s3 := box_cell FX (j := 3) rfl
        have s4 := box_cell FX (j := 4) rfl
        have f0 := bfro FX 0
        have f1 := bfro FX 1
        have f2 := bfro FX 2
        have f3 := bfro FX 3
        have f4 := bfro FX 4
        go_simp
        refine hK.out _ _ (((((hH.setCell hg4 _).setCell hg4 _).setCell hg4 _).setCell hg4 _).setCell hg4 _) (fun hH9 => ?_)
        clear hH
        have hH := hH9
        clear hH9 hK K
        try (conv => arg 8; simp only [Act.put, List.setIfInBounds_toArray, List.set_cons_zero, List.set_cons_succ])
        clear s0 s1 s2 s3 s4 f0 f1 f2 f3 f4
        refine takeH11 (i := 14) (d := some 15) (v := .slice kt1 kt2 kt3) rfl rfl (by kernel_rfl) (by kernel_rfl) (by kernel_rfl) (fun _ _ _ h => h) (Or.inl ⟨by rfl, fun w9 hSw => ?_⟩) hH ?_
        · (try dsimp only at hSw); go_simp
        conv => arg 8; simp only [Act.put, List.setIfInBounds_toArray, List.set_cons_zero, List.set_cons_succ]
        refine takeH11 (i := 15) (d := some 16) (v := .int .i64 kn) rfl rfl (by kernel_rfl) (by kernel_rfl) (by kernel_rfl) (fun _ _ _ h => h) (Or.inl ⟨by rfl, fun w9 hSw => ?_⟩) hH ?_
        · (try dsimp only at hSw); go_simp
        conv => arg 8; simp only [Act.put, List.setIfInBounds_toArray, List.set_cons_zero, List.set_cons_succ]
        refine wpAnyH_done (by kernel_rfl) ?_ _
        have BFV : Below uB.heap.size uB (five u2 g (.slice ka n1 kia) (.slice kb n2 kib) (.slice kc n3 kic) (.slice kd n4 kid) (.bool kb0)) := five_below _ _ _ _ _ hBA hgB
        have ER : RetG (five u2 g (.slice ka n1 kia) (.slice kb n2 kib) (.slice kc n3 kic) (.slice kd n4 kid) (.bool kb0)) (l.take n) (ls.take n) so (.slice ka n1 kia) (.slice kb n2 kib) (.slice kc n3 kic) (.slice kd n4 kid) kb0 kn := FR.below BFV
        have EX : (five u2 g (.slice ka n1 kia) (.slice kb n2 kib) (.slice kc n3 kic) (.slice kd n4 kid) (.bool kb0)).heap[g]? = some (.cells #[.slice ka n1 kia, .slice kb n2 kib, .slice kc n3 kic, .slice kd n4 kid, .bool kb0] 30 (0, 0)) := by simpa [five] using bset (bset (bset (bset (bset FX 0 (.slice ka n1 kia)) 1 (.slice kb n2 kib)) 2 (.slice kc n3 kic)) 3 (.slice kd n4 kid)) 4 (.bool kb0)
        unfold five at ER EX
        have HER := hide ER
        have HEX := hide EX
        have HEB := hide hH
        clear ER EX FX FR hH
        go_wp2_with fail
        go_meet
        exact ⟨g, ka, kb, kc, kd, n1, n2, n3, n4, kia, kib, kic, kid, _, kb0, kn, rfl, rfl, rfl, unhide HEX, unhide HER, ⟨_, _, _, rfl⟩, unhide HEB⟩
      refine AllReadyH.cons rfl (fun K hK => ?_) AllReadyH.nil
      go_simp
      have FX := heap_alloc_new u0 (.cells #[.slice none 0 0, .slice none 0 0, .slice none 0 0, .slice none 0 0, .bool false] 30)
      have BA := below_alloc u0 (.cells #[.slice none 0 0, .slice none 0 0, .slice none 0 0, .slice none 0 0, .bool false] 30)
      obtain ⟨u1, hu⟩ : ∃ u1, u1 = u0.alloc (.cells #[.slice none 0 0, .slice none 0 0, .slice none 0 0, .slice none 0 0, .bool false] 30) := ⟨_, rfl⟩
      rw [← hu] at FX BA ⊢
      obtain ⟨g, hk9⟩ : ∃ g, u0.heap.size = g := ⟨_, rfl⟩
      have hg4 : w4.heap.size ≤ g := by rw [← hk9]; exact hH.size
      rw [hk9] at FX
      simp only [hk9]
      replace FG := FG.below BA
      replace FB := FB.below BA
      have A9 := below_trans' hH BA
      clear hu hk9 BA
      refine hK.out _ _ (A9) (fun hH9 => ?_)
      clear hH
      have hH := hH9
      clear hH9 hK K
      try (conv => arg 8; simp only [Act.put, List.setIfInBounds_toArray, List.set_cons_zero, List.set_cons_succ])
      clear A9
      refine wpAnyH_ready (rs := [7]) (by kernel_rfl) (by simp) ?_
      refine AllReadyH.cons rfl (fun K hK => ?_) AllReadyH.nil
      go_simp
      refine (mergeM_any _ _ (l.take n) (ls.take n) so u1 FG FB ((unhide HF).take n).big ((unhide HF).take n).len ((unhide HF).take n).left).mono ?_
      rintro e9 u2 h9
      obtain ⟨ka, kb, kc, kd, n1, n2, n3, n4, kia, kib, kic, kid, kv, kb0, kn, rfl, FR, -, -, ⟨kt1, kt2, kt3, rfl⟩, BA⟩ := h9.ret
      replace FX := box_below FX BA
      have A9 := below_trans' hH BA
      clear BA h9 FG FB
      refine hK.out _ _ (A9) (fun hH9 => ?_)
      clear hH
      have hH := hH9
      clear hH9 hK K
      try (conv => arg 8; simp only [Act.put, List.setIfInBounds_toArray, List.set_cons_zero, List.set_cons_succ])
      clear A9
      refine takeH11 (i := 8) (d := some 58) (v := .tuple #[.agg #[.slice ka n1 kia, .slice kb n2 kib, .slice kc n3 kic, .slice kd n4 kid, .bool kb0], .slice kt1 kt2 kt3, .int .i64 kn]) rfl rfl (by kernel_rfl) (by kernel_rfl) (by kernel_rfl) (fun _ _ _ h => h) (Or.inl ⟨by rfl, fun w9 hSw => ?_⟩) hH ?_
      · (try dsimp only at hSw); go_simp
      conv => arg 8; simp only [Act.put, List.setIfInBounds_toArray, List.set_cons_zero, List.set_cons_succ]
      refine takeH11 (i := 9) (d := some 67) (v := .agg #[.slice ka n1 kia, .slice kb n2 kib, .slice kc n3 kic, .slice kd n4 kid, .bool kb0]) rfl rfl (by kernel_rfl) (by kernel_rfl) (by kernel_rfl) (fun _ _ _ h => h) (Or.inl ⟨by rfl, fun w9 hSw => ?_⟩) hH ?_
      · (try dsimp only at hSw); go_simp
      conv => arg 8; simp only [Act.put, List.setIfInBounds_toArray, List.set_cons_zero, List.set_cons_succ]
      refine takeH11 (i := 10) (d := some 68) (v := .slice kt1 kt2 kt3) rfl rfl (by kernel_rfl) (by kernel_rfl) (by kernel_rfl) (fun _ _ _ h => h) (Or.inl ⟨by rfl, fun w9 hSw => ?_⟩) hH ?_
      · (try dsimp only at hSw); go_simp
      conv => arg 8; simp only [Act.put, List.setIfInBounds_toArray, List.set_cons_zero, List.set_cons_succ]
      refine takeH11 (i := 11) (d := some 69) (v := .int .i64 kn) rfl rfl (by kernel_rfl) (by kernel_rfl) (by kernel_rfl) (fun _ _ _ h => h) (Or.inl ⟨by rfl, fun w9 hSw => ?_⟩) hH ?_
      · (try dsimp only at hSw); go_simp
      conv => arg 8; simp only [Act.put, List.setIfInBounds_toArray, List.set_cons_zero, List.set_cons_succ]
      refine wpAnyH_ready (rs := [13]) (by kernel_rfl) (by simp) ?_
      refine AllReadyH.cons rfl (fun K hK => ?_) AllReadyH.nil
      have s0 := box_cell FX (j := 0) rfl
      have s1 := box_cell FX (j := 1) rfl
      have s2 := box_cell FX (j := 2) rfl
      have s3 := box_cell FX (j := 3) rfl
      have s4 := box_cell FX (j := 4) rfl
      have f0 := bfro FX 0
      have f1 := bfro FX 1
      have f2 := bfro FX 2
      have f3 := bfro FX 3
      have f4 := bfro FX 4
      go_simp
      refine hK.out _ _ (((((hH.setCell hg4 _).setCell hg4 _).setCell hg4 _).setCell hg4 _).setCell hg4 _) (fun hH9 => ?_)
      clear hH
      have hH := hH9
      clear hH9 hK K
      try (conv => arg 8; simp only [Act.put, List.setIfInBounds_toArray, List.set_cons_zero, List.set_cons_succ])
      clear s0 s1 s2 s3 s4 f0 f1 f2 f3 f4
      refine takeH11 (i := 14) (d := some 15) (v := .slice kt1 kt2 kt3) rfl rfl (by kernel_rfl) (by kernel_rfl) (by kernel_rfl) (fun _ _ _ h => h) (Or.inl ⟨by rfl, fun w9 hSw => ?_⟩) hH ?_
      · (try dsimp only at hSw); go_simp
      conv => arg 8; simp only [Act.put, List.setIfInBounds_toArray, List.set_cons_zero, List.set_cons_succ]
      refine takeH11 (i := 15) (d := some 16) (v := .int .i64 kn) rfl rfl (by kernel_rfl) (by kernel_rfl) (by kernel_rfl) (fun _ _ _ h => h) (Or.inl ⟨by rfl, fun w9 hSw => ?_⟩) hH ?_
      · (try dsimp only at hSw); go_simp
      conv => arg 8; simp only [Act.put, List.setIfInBounds_toArray, List.set_cons_zero, List.set_cons_succ]
      refine wpAnyH_done (by kernel_rfl) ?_ _
      have ER : RetG (five u2 g (.slice ka n1 kia) (.slice kb n2 kib) (.slice kc n3 kic) (.slice kd n4 kid) (.bool kb0)) (l.take n) (ls.take n) so (.slice ka n1 kia) (.slice kb n2 kib) (.slice kc n3 kic) (.slice kd n4 kid) kb0 kn := FR.off (bxk_of (a := (none, 0, 0)) (b := (none, 0, 0)) (c := (none, 0, 0)) (d := (none, 0, 0)) FX) (off_five _ _ _ _ _ _ _)
      have EX : (five u2 g (.slice ka n1 kia) (.slice kb n2 kib) (.slice kc n3 kic) (.slice kd n4 kid) (.bool kb0)).heap[g]? = some (.cells #[.slice ka n1 kia, .slice kb n2 kib, .slice kc n3 kic, .slice kd n4 kid, .bool kb0] 30 (0, 0)) := by simpa [five] using bset (bset (bset (bset (bset FX 0 (.slice ka n1 kia)) 1 (.slice kb n2 kib)) 2 (.slice kc n3 kic)) 3 (.slice kd n4 kid)) 4 (.bool kb0)
      unfold five at ER EX
      have HER := hide ER
      have HEX := hide EX
      have HEB := hide hH
      clear ER EX FX FR hH
      go_wp2_with fail
      go_meet
      exact ⟨g, ka, kb, kc, kd, n1, n2, n3, n4, kia, kib, kic, kid, _, kb0, kn, rfl, rfl, rfl, unhide HEX, unhide HER, ⟨_, _, _, rfl⟩, unhide HEB⟩
    case rest =>
      rw [unhide HP3]
      obtain ⟨g, ka, kb, kc, kd, n1, n2, n3, n4, kia, kib, kic, kid, kv, kb0, kn, rfl, rfl, rfl, XG, RG, ⟨kt1, kt2, kt3, rfl⟩, BC⟩ := hcut
      obtain ⟨w7, hw7⟩ : ∃ w7, w7 = wc := ⟨_, rfl⟩
      rw [← hw7] at XG RG BC ⊢
      clear hw7
      have BB7 := below_trans' (unhide HBB4) BC
      by_cases h0 : jn = 0
      case neg =>
        have hne : (jn != 0) = true := by simpa using h0
        clear XG RG BC RU1 RU2
        go_wp2
        go_ret
        exact ⟨rfl, BB7⟩
      case pos =>
      subst h0
      have hGD := (unhide HR4).1.good rfl
      have hG1 := hGD.take n
      obtain rfl : kn = 0 := hG1.err RG.1
      obtain ⟨hb0, S4⟩ := (unhide HR4).2 rfl
      obtain rfl : so = jb0 := hb0.symm
      obtain ⟨hb1, S1⟩ := RG.2 rfl
      obtain rfl : so = kb0 := hb1.symm
      obtain ⟨hG2, hout⟩ := hGD.twice so n
      have hM1 := valid_may11 (hG1.valid so)
      obtain ⟨s, hs⟩ : ∃ s, G.out so (G.left l ls) = s := ⟨_, rfl⟩
      obtain ⟨s1, hs1⟩ : ∃ s1, G.out so (G.left (l.take n) (ls.take n)) = s1 := ⟨_, rfl⟩
      rw [hs] at S4 hout
      rw [hs1] at S1 hG2 hout hM1
      obtain ⟨rfl, rfl, rfl, rfl⟩ := S4.lens11
      obtain ⟨rfl, rfl, rfl, rfl⟩ := S1.lens11
      obtain ⟨N, hN⟩ : ∃ N, s1.ids.length = N := ⟨_, rfl⟩
      have hN64 : N ≤ 64 := by rw [← hN]; exact hM1.heads.n64
      have HS7 := hide (S4.below BC)
      have HX7 := hide (box_below (unhide HX4) BC)
      have HXG := hide XG
      have HS1 := hide S1
      have HM1 := hide hM1
      have HG2 := hide hG2
      have HOUT := hide hout
      have HB7 := hide BB7
      have FG7 := Gs.cut ((unhide HG4).below BC) n l.length (unhide HNL) (Nat.le_refl _)
      have FB7 := Bll.cut ((unhide HB4).below BC) n ls.length (unhide HDL) (Nat.le_refl _)
      rw [List.take_of_length_le (by simp)] at FG7 FB7
      obtain ⟨x3, y3, z3, hs3⟩ : ∃ x y z, sliced a n l.length cap 5 = .slice x y z := ⟨_, _, _, rfl⟩
      obtain ⟨x4, y4, z4, hs4⟩ : ∃ x y z, sliced a2 n ls.length cap2 1 = .slice x y z := ⟨_, _, _, rfl⟩
      have RU3 : ∀ w : World, (Instr.slice 22 (.slice a l.length cap) (some (.int .i64 n)) none none).run Tryz.prog w = .ok (.slice x3 y3 z3) w := fun w => by rw [← hs3]; exact run_gs_from a l.length cap n (unhide HNL) w
      have RU4 : ∀ w : World, (Instr.slice 23 (.slice a2 ls.length cap2) (some (.int .i64 n)) none none).run Tryz.prog w = .ok (.slice x4 y4 z4) w := fun w => by rw [← hs4]; exact run_bl_from a2 ls.length cap2 n (unhide HDL) w
      rw [hs3] at FG7
      rw [hs4] at FB7
      have HFG := hide FG7
      have HFB := hide FB7
      have HNN := hide hN
      have HBC := hide BC
      clear XG RG BC RU1 RU2 hGD hG1 S4 S1 hb0 hb1 hG2 hout hM1 FG7 FB7 hs3 hs4 BB7
      have KB : ∀ w' : World, Below w7.heap.size w7 w' → Below w7.heap.size w7 w' ∧ w'.cell? ⟨g, 0, none⟩ = some (.slice ka s1.ids.length kia) ∧ w'.cell? ⟨g, 1, none⟩ = some (.slice kb s1.keys.length kib) ∧ w'.cell? ⟨g, 2, none⟩ = some (.slice kc s1.lens.length kic) ∧ w'.cell? ⟨g, 3, none⟩ = some (.slice kd s1.ts.length kid) ∧ w'.cell? ⟨g, 4, none⟩ = some (.bool so) := fun w' h9 => ⟨h9, box_cell (box_below (unhide HXG) h9) (j := 0) rfl, box_cell (box_below (unhide HXG) h9) (j := 1) rfl, box_cell (box_below (unhide HXG) h9) (j := 2) rfl, box_cell (box_below (unhide HXG) h9) (j := 3) rfl, box_cell (box_below (unhide HXG) h9) (j := 4) rfl⟩
      have HKB := hide KB
      clear KB
      obtain ⟨ps, hK7, hps, hSv7⟩ := unhide HFG
      obtain ⟨us, hU7, hul, hUS7⟩ := unhide HFB
      have hpl : ps.length ≤ 6 := by
        have h1 := (unhide HF).1
        have h2 : ps.length = (l.drop n).length := by rw [← hps, List.length_map]
        rw [List.length_drop] at h2
        omega
      have hul6 : us.length ≤ 6 := by
        have h1 := (unhide HF).2.1
        rw [hul, List.length_drop]
        omega
      have HK7 := hide hK7
      have HSV7 := hide hSv7
      have HU7 := hide hU7.kl
      have HUS7 := hide hUS7
      have HPS := hide hps
      have HUL := hide hul
      have HPL := hide hpl
      have HUL6 := hide hul6
      clear hK7 hps hSv7 hU7 hul hUS7 hpl hul6 hN64 hN
      obtain ⟨iG, hiG, hzG0, hzG1, hzG2⟩ := info_parts Tryz.infoG
      obtain ⟨iB, hiB, hzB0, hzB1, hzB2⟩ := info_parts Tryz.infoBl
      go_upto_region 9 with fail
      refine wp_region_held_drew (S := fun w' => Below w7.heap.size w7 w' ∧ w'.cell? ⟨g, 0, none⟩ = some (.slice ka s1.ids.length kia) ∧ w'.cell? ⟨g, 1, none⟩ = some (.slice kb s1.keys.length kib) ∧ w'.cell? ⟨g, 2, none⟩ = some (.slice kc s1.lens.length kic) ∧ w'.cell? ⟨g, 3, none⟩ = some (.slice kd s1.ts.length kid) ∧ w'.cell? ⟨g, 4, none⟩ = some (.bool so)) (by kernel_rfl) (unhide HKB _ (Below.refl _ _).drew) (fun hH => ?_)
      obtain ⟨u0, hu0⟩ : ∃ u0, u0 = w7.drew := ⟨_, rfl⟩
      rw [← hu0] at hH ⊢
      clear hu0
      refine takeH11 (i := 0) (d := some 78) (v := .agg #[.slice ka s1.ids.length kia, .slice kb s1.keys.length kib, .slice kc s1.lens.length kic, .slice kd s1.ts.length kid, .bool so]) rfl rfl (by kernel_rfl) (by kernel_rfl) (by kernel_rfl) (fun _ _ _ h => h) (Or.inl ⟨by rfl, fun w9 hSw => ?_⟩) hH ?_
      · (try dsimp only at hSw); go_simp
      conv => arg 8; simp only [Act.put, List.setIfInBounds_toArray, List.set_cons_zero, List.set_cons_succ]
      refine takeH11 (i := 2) (d := some 80) (v := .slice a l.length cap) rfl rfl (by kernel_rfl) (by kernel_rfl) (by kernel_rfl) (fun _ _ _ h => h) (Or.inl ⟨by rfl, fun w9 hSw => ?_⟩) hH ?_
      · (try dsimp only at hSw); go_simp
      conv => arg 8; simp only [Act.put, List.setIfInBounds_toArray, List.set_cons_zero, List.set_cons_succ]
      refine takeH11 (i := 3) (d := some 81) (v := .int .i64 n) rfl rfl (by kernel_rfl) (by kernel_rfl) (by kernel_rfl) (fun _ _ _ h => h) (Or.inl ⟨by rfl, fun w9 hSw => ?_⟩) hH ?_
      · (try dsimp only at hSw); go_simp
      conv => arg 8; simp only [Act.put, List.setIfInBounds_toArray, List.set_cons_zero, List.set_cons_succ]
      refine takeH11 (i := 4) (d := some 82) (v := .slice x3 y3 z3) rfl rfl (by kernel_rfl) (by kernel_rfl) (by kernel_rfl) (fun _ _ _ h => h) (Or.inl ⟨by rfl, fun w9 hSw => ?_⟩) hH ?_
      · (try dsimp only at hSw); go_simp
      conv => arg 8; simp only [Act.put, List.setIfInBounds_toArray, List.set_cons_zero, List.set_cons_succ]
      refine wpAnyH_ready (rs := [1]) (by kernel_rfl) (by simp) ?_
      refine AllReadyH.cons rfl (fun K hK => ?_) AllReadyH.nil
      go_simp
      have O0 : (u0.alloc (.cells #[.slice ka s1.ids.length kia, .slice kb s1.keys.length kib, .slice kc s1.lens.length kic, .slice kd s1.ts.length kid, .bool so] 30)).ownsRow w7.heap.size 30 5 (.slice (some ⟨u0.heap.size, 0, none⟩) 1 1) 1 [.slice ka s1.ids.length kia, .slice kb s1.keys.length kib, .slice kc s1.lens.length kic, .slice kd s1.ts.length kid, .bool so] := World.ownsRow_lit u0 #[.slice ka s1.ids.length kia, .slice kb s1.keys.length kib, .slice kc s1.lens.length kic, .slice kd s1.ts.length kid, .bool so] 1 hH.1.size (by unfold maxLen; omega) rfl
      have BA := below_alloc u0 (.cells #[.slice ka s1.ids.length kia, .slice kb s1.keys.length kib, .slice kc s1.lens.length kic, .slice kd s1.ts.length kid, .bool so] 30)
      obtain ⟨u1, hu⟩ : ∃ u1, u1 = u0.alloc (.cells #[.slice ka s1.ids.length kia, .slice kb s1.keys.length kib, .slice kc s1.lens.length kic, .slice kd s1.ts.length kid, .bool so] 30) := ⟨_, rfl⟩
      rw [← hu] at O0 BA ⊢
      obtain ⟨p9, hk9⟩ : ∃ p9, u0.heap.size = p9 := ⟨_, rfl⟩
      rw [hk9] at O0
      simp only [hk9]
      have A9 := below_trans' hH.1 BA
      clear hu hk9 BA
      refine hK.out _ _ (unhide HKB _ A9) (fun hH9 => ?_)
      clear hH
      have hH := hH9
      clear hH9 hK K
      try (conv => arg 8; simp only [Act.put, List.setIfInBounds_toArray, List.set_cons_zero, List.set_cons_succ])
      clear A9
      refine wpAnyH_ready (rs := [5]) (by kernel_rfl) (by simp) ?_
      refine AllReadyH.cons rfl (fun K hK => ?_) AllReadyH.nil
      refine step_append_kl (f := encG) (k := 5) (pre := [((s1, so), (ka, s1.ids.length, kia), (kb, s1.keys.length, kib), (kc, s1.lens.length, kic), (kd, s1.ts.length, kid))]) (zs := ps) (by rfl) _ _ _ (by rfl) Tryz.underlying22 hiG hzG0 hzG1 hzG2 rfl (by decide) encG_len encG_one (by rfl) (by rfl) ((unhide HK7).below hH.1) O0 hH.1.size (by have := unhide HPL; simp; omega) (by decide) ?_
      intro v9 w9 O9 gr9
      have BG : Below w7.heap.size w7 w9 := hH.1.grown gr9 hH.1.size (fun k hk => (O0.lt k hk).1)
      obtain ⟨q1, q2, q3, rfl⟩ : ∃ a b c, v9 = .slice a b c := by
        obtain ⟨a9, c9, h9, -⟩ := (Kl.owned encG_len (by decide) O9).open encG_len (by decide)
        exact ⟨_, _, _, h9⟩
      have FG2 : Gs w9 (.slice q1 q2 q3) ((s1, so) :: l.drop n) := by
        have h9 := Gs.row O9 (fun p hp => by
          rcases List.mem_append.1 hp with h8 | h8
          · obtain rfl := List.mem_singleton.1 h8
            exact (unhide HS1).below BG
          · exact ((unhide HSV7) p h8).below BG)
        rw [List.map_append, unhide HPS] at h9
        exact h9
      have HFG2 := hide FG2
      have HB9 := hide BG
      clear O0 O9 gr9 FG2
      refine hK.out _ _ (unhide HKB _ BG) (fun hH9 => ?_)
      clear hH
      have hH := hH9
      clear hH9 hK K
      try (conv => arg 8; simp only [Act.put, List.setIfInBounds_toArray, List.set_cons_zero, List.set_cons_succ])
      clear BG
      refine takeH11 (i := 6) (d := some 17) (v := .slice q1 q2 q3) rfl rfl (by kernel_rfl) (by kernel_rfl) (by kernel_rfl) (fun _ _ _ h => h) (Or.inl ⟨by rfl, fun w9 hSw => ?_⟩) hH ?_
      · (try dsimp only at hSw); go_simp
      conv => arg 8; simp only [Act.put, List.setIfInBounds_toArray, List.set_cons_zero, List.set_cons_succ]
      refine wpAnyH_done (by kernel_rfl) ?_ _
      clear hH
      have g0 : w9.cell? ⟨g, 0, none⟩ = some (.slice ka s1.ids.length kia) := box_cell (box_below (unhide HXG) (unhide HB9)) (j := 0) rfl
      obtain ⟨LN, hLN⟩ : ∃ LN, L.new (s1.ids.length : Int) = LN := ⟨_, rfl⟩
      have CNW := fun w8 => new_any (s1.ids.length : Int) w8
      rw [hLN] at CNW
      have hLR : LN = List.replicate s1.ids.length true := by rw [← hLN]; exact twice_new (unhide HM1).heads.n64
      have HLR := hide hLR
      clear hLN hLR
      go_upto_region 10 with fail
      have KB2 : ∀ w' : World, Below w9.heap.size w9 w' → Below w9.heap.size w9 w' ∧ w'.cell? ⟨g, 0, none⟩ = some (.slice ka s1.ids.length kia) := fun w' h9 => ⟨h9, cell_keep g0 h9⟩
      have HKB2 := hide KB2
      clear KB2 g0
      refine wp_region_held_drew (S := fun w' => Below w9.heap.size w9 w' ∧ w'.cell? ⟨g, 0, none⟩ = some (.slice ka s1.ids.length kia)) (by kernel_rfl) (unhide HKB2 _ (Below.refl _ _).drew) (fun hH => ?_)
      obtain ⟨u0, hu0⟩ : ∃ u0, u0 = w9.drew := ⟨_, rfl⟩
      rw [← hu0] at hH ⊢
      clear hu0
      refine takeH11 (i := 0) (d := some 84) (v := .pointer (some ⟨g, 0, none⟩)) rfl rfl (by kernel_rfl) (by kernel_rfl) (by kernel_rfl) (fun _ _ _ h => h) (Or.inl ⟨by rfl, fun w9 hSw => ?_⟩) hH ?_
      · (try dsimp only at hSw); go_simp
      conv => arg 8; simp only [Act.put, List.setIfInBounds_toArray, List.set_cons_zero, List.set_cons_succ]
      refine takeH11 (i := 1) (d := some 85) (v := .slice ka s1.ids.length kia) rfl rfl (by kernel_rfl) (by kernel_rfl) (by kernel_rfl) (fun _ _ _ h => h) (Or.inl ⟨by rfl, fun w9 hSw => ?_⟩) hH ?_
      · (try dsimp only at hSw); go_simp
      conv => arg 8; simp only [Act.put, List.setIfInBounds_toArray, List.set_cons_zero, List.set_cons_succ]
      refine takeH11 (i := 2) (d := some 86) (v := .int .i64 (s1.ids.length : Int)) rfl rfl (by kernel_rfl) (by kernel_rfl) (by kernel_rfl) (fun _ _ _ h => h) (Or.inl ⟨by rfl, fun w9 hSw => ?_⟩) hH ?_
      · (try dsimp only at hSw); go_simp
      conv => arg 8; simp only [Act.put, List.setIfInBounds_toArray, List.set_cons_zero, List.set_cons_succ]
      refine takeH11 (i := 5) (d := some 89) (v := .slice a2 ls.length cap2) rfl rfl (by kernel_rfl) (by kernel_rfl) (by kernel_rfl) (fun _ _ _ h => h) (Or.inl ⟨by rfl, fun w9 hSw => ?_⟩) hH ?_
      · (try dsimp only at hSw); go_simp
      conv => arg 8; simp only [Act.put, List.setIfInBounds_toArray, List.set_cons_zero, List.set_cons_succ]
      refine takeH11 (i := 6) (d := some 90) (v := .int .i64 n) rfl rfl (by kernel_rfl) (by kernel_rfl) (by kernel_rfl) (fun _ _ _ h => h) (Or.inl ⟨by rfl, fun w9 hSw => ?_⟩) hH ?_
      · (try dsimp only at hSw); go_simp
      conv => arg 8; simp only [Act.put, List.setIfInBounds_toArray, List.set_cons_zero, List.set_cons_succ]
      refine takeH11 (i := 7) (d := some 91) (v := .slice x4 y4 z4) rfl rfl (by kernel_rfl) (by kernel_rfl) (by kernel_rfl) (fun _ _ _ h => h) (Or.inl ⟨by rfl, fun w9 hSw => ?_⟩) hH ?_
      · (try dsimp only at hSw); go_simp
      conv => arg 8; simp only [Act.put, List.setIfInBounds_toArray, List.set_cons_zero, List.set_cons_succ]
      refine wpAnyH_ready (rs := [3]) (by kernel_rfl) (by simp) ?_
      refine AllReadyH.cons rfl (fun K hK => ?_) AllReadyH.nil
      go_simp
      refine (CNW u0).mono ?_
      rintro e9 u1 ⟨nw9, rfl, O9, BA⟩
      have FN := Gl.owned O9
      obtain ⟨na9, nc9, hnw, -⟩ := id FN
      subst hnw
      have hH1 := below_trans' hH.1 BA
      clear BA O9
      refine hK.out _ _ (unhide HKB2 _ hH1) (fun hH9 => ?_)
      clear hH
      have hH := hH9
      clear hH9 hK K
      try (conv => arg 8; simp only [Act.put, List.setIfInBounds_toArray, List.set_cons_zero, List.set_cons_succ])
      refine wpAnyH_ready (rs := [4]) (by kernel_rfl) (by simp) ?_
      refine AllReadyH.cons rfl (fun K hK => ?_) AllReadyH.nil
      go_simp
      have O0 : (u1.alloc (.cells #[.slice na9 LN.length nc9] 38)).ownsRow u1.heap.size 38 1 (.slice (some ⟨u1.heap.size, 0, none⟩) 1 1) 1 [.slice na9 LN.length nc9] := World.ownsRow_lit u1 #[.slice na9 LN.length nc9] 1 (Nat.le_refl _) (by unfold maxLen; omega) rfl
      have BA := below_alloc u1 (.cells #[.slice na9 LN.length nc9] 38)
      obtain ⟨u2, hu⟩ : ∃ u2, u2 = u1.alloc (.cells #[.slice na9 LN.length nc9] 38) := ⟨_, rfl⟩
      rw [← hu] at O0 BA ⊢
      obtain ⟨p9, hk9⟩ : ∃ p9, u1.heap.size = p9 := ⟨_, rfl⟩
      rw [hk9] at O0
      simp only [hk9]
      have A9 := below_trans' hH.1 BA
      clear hu
      refine hK.out _ _ (unhide HKB2 _ A9) (fun hH9 => ?_)
      clear hH
      have hH := hH9
      clear hH9 hK K
      try (conv => arg 8; simp only [Act.put, List.setIfInBounds_toArray, List.set_cons_zero, List.set_cons_succ])
      clear A9
      refine wpAnyH_ready (rs := [8]) (by kernel_rfl) (by simp) ?_
      refine AllReadyH.cons rfl (fun K hK => ?_) AllReadyH.nil
      refine step_append_kl (f := fun y : Pts => [sv y]) (k := 1) (pre := [(na9, LN.length, nc9)]) (zs := us) (by rfl) _ _ _ (by rfl) Tryz.underlying23 hiB hzB0 hzB1 hzB2 rfl (by decide) (fun _ => rfl) (fun y u hu => by simp only [List.mem_singleton] at hu; subst hu; rfl) (by rfl) (by rfl) (((unhide HU7).below (unhide HB9)).below hH.1) O0 (by rw [← hk9]; exact BA.size) (by have := unhide HUL6; simp; omega) (by decide) ?_
      intro v9 w10 O9 gr9
      have BG1 : Below u1.heap.size u1 w10 := BA.grown gr9 BA.size (fun k hk => by rw [hk9]; exact (O0.lt k hk).1)
      have BG := below_trans' hH1 BG1
      have B710 := below_trans' (unhide HB9) BG
      obtain ⟨q4, q5, q6, rfl⟩ : ∃ a b c, v9 = .slice a b c := by
        obtain ⟨a9, c9, h9, -⟩ := (Kl.owned (k := 1) (f := fun y : Pts => [sv y]) (fun _ => rfl) (by decide) O9).open (fun _ => rfl) (by decide)
        exact ⟨_, _, _, h9⟩
      have FB2 : Bll w10 (.slice q4 q5 q6) (LN :: ls.drop n) := Bll.row O9 (unhide HUL) (FN.below BG1) (fun i s9 l9 h8 h9 => ((unhide HUS7) i s9 l9 h8 h9).below B710)
      have HFB2 := hide FB2
      have HB10 := hide B710
      have HFG3 := hide ((unhide HFG2).below BG)
      clear O0 O9 gr9 FB2 FN BG1 hk9 BA hH1 B710
      refine hK.out _ _ (unhide HKB2 _ BG) (fun hH9 => ?_)
      clear hH
      have hH := hH9
      clear hH9 hK K
      try (conv => arg 8; simp only [Act.put, List.setIfInBounds_toArray, List.set_cons_zero, List.set_cons_succ])
      clear BG
      refine takeH11 (i := 9) (d := some 18) (v := .slice q4 q5 q6) rfl rfl (by kernel_rfl) (by kernel_rfl) (by kernel_rfl) (fun _ _ _ h => h) (Or.inl ⟨by rfl, fun w9 hSw => ?_⟩) hH ?_
      · (try dsimp only at hSw); go_simp
      conv => arg 8; simp only [Act.put, List.setIfInBounds_toArray, List.set_cons_zero, List.set_cons_succ]
      refine wpAnyH_done (by kernel_rfl) ?_ _
      clear hH
      have BB10 := below_trans' (unhide HB7) (unhide HB10)
      have hG3 : G.Good ((s1, so) :: l.drop n) (LN :: ls.drop n) := by rw [unhide HLR]; exact unhide HG2
      have hO3 : G.out so (G.left ((s1, so) :: l.drop n) (LN :: ls.drop n)) = s := by rw [unhide HLR]; exact unhide HOUT
      have CM2 := mergeM_any _ _ ((s1, so) :: l.drop n) (LN :: ls.drop n) so w10 (unhide HFG3) (unhide HFB2) (twice_big (unhide HM1) (unhide HF) n) (by have := twice_len (s := (s1, so)) (unhide HF) n; omega) (twice_left (unhide HF) n)
      have HG3 := hide hG3
      have HO3 := hide hO3
      have HBB10 := hide BB10
      clear CNW hG3 hO3 BB10 RU3 RU4
      go_wp2_with fail
      refine CM2.mono ?_
      rintro e w11 h11
      obtain ⟨ha, hb, hc, hd, o1, o2, o3, o4, hia, hib, hic, hid, hv, hb0, hn, rfl, R5, -, -, ⟨ht1, ht2, ht3, rfl⟩, B11⟩ := h11.ret
      obtain rfl : hn = 0 := (unhide HG3).err R5.1
      obtain ⟨hb1, S5⟩ := R5.2 rfl
      obtain rfl : so = hb0 := hb1.symm
      rw [unhide HO3] at S5
      obtain ⟨rfl, rfl, rfl, rfl⟩ := S5.lens11
      obtain ⟨w12, hw12⟩ : ∃ w12, w12 = w11.alloc (.cells #[.slice ha s.ids.length hia, .slice hb s.keys.length hib, .slice hc s.lens.length hic, .slice hd s.ts.length hid, .bool so] 30) := ⟨_, rfl⟩
      have BA : Below w11.heap.size w11 w12 := by rw [hw12]; exact below_alloc _ _
      have B7 := below_trans' (unhide HB10) B11
      have X11 := box_below (unhide HX7) B7
      have hlt : p3 < w11.heap.size := (Array.getElem?_eq_some_iff.1 X11).1
      have x09 := box_cell X11 (j := 0) rfl
      have x19 := box_cell X11 (j := 1) rfl
      have x29 := box_cell X11 (j := 2) rfl
      have x39 := box_cell X11 (j := 3) rfl
      have x49 := box_cell X11 (j := 4) rfl
      have CS := segSame_any ha hb hc hd hia hib hic hid s so ja jb jc jd jia jib jic jid w12 (S5.below BA) ((unhide HS7).below (below_trans' B7 BA))
      have HBE := hide (below_trans' (below_trans' (unhide HBB10) B11) BA)
      have HW12 := hide hw12
      clear CM2 h11 R5 S5 hb1 hw12 BA B7 X11 B11
      go_wp2_with fail
      rw [← unhide HW12]
      refine CS.mono ?_
      rintro e w13 ⟨rfl, B13⟩
      have BE := below_trans' (unhide HBE) B13
      clear CS x09 x19 x29 x39 x49
      go_wp2
      go_ret
      exact ⟨rfl, BE⟩
end Go.Proofs.YtnahjaloodeicaaGreat
