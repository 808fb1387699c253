/-
  The contract of the document's own Order.
-/
import Derived.Test.YtggojmnalmjapaaTable10
namespace Go.Proofs.Ytggojmnalmjapaa
set_option maxRecDepth 100000
open Go.RowKit Go.Deep

abbrev nf (i : Nat) : Value := .int .i64 (i : Int)
theorem Gl.cut10 {α : Type} {f : α → Value} {w : World} {a : Option Addr} {cap : Nat} {L : List α} (h : Gl f w (.slice a L.length cap) L) (lo : Nat) (h2 : lo ≤ L.length) :
    Gl f w (sliced a lo L.length cap 1) (L.drop lo) := by
  obtain ⟨a', cap', hv, hl, hmx, hn, hc⟩ := h
  simp only [Value.slice.injEq, true_and] at hv
  obtain ⟨rfl, rfl⟩ := hv
  have hlen : (L.drop lo).length = L.length - lo := by simp
  refine ⟨_, cap - lo, by simp only [sliced, hlen]; rfl, by omega, by unfold maxLen at *; omega, ?_, ?_⟩
  · intro h
    split at h
    · have := hn h; omega
    · simp at h; have := hn h; omega
  · intro x hx i y hy
    have hi' : i < L.length - lo := by
      have := (List.getElem?_eq_some_iff.1 hy).1
      omega
    have hyl : L[lo + i]? = some y := by
      rw [List.getElem?_drop] at hy
      exact hy
    rw [if_neg (by omega)] at hx
    cases a with
    | none => simp at hx
    | some z =>
      have h0 := hc z rfl (lo + i) y hyl
      obtain ⟨b, off, spot⟩ := z
      have z0 := hc _ rfl 0 L[0] (List.getElem?_eq_getElem (by omega))
      have hsp : spot = none := by simpa [Addr.add] using World.cell?_spot z0
      subst hsp
      simp [Addr.add_lit] at hx
      subst hx
      simp only [Addr.add_lit] at h0 ⊢
      rw [show off + lo + i = off + (lo + i) by omega]
      exact h0
theorem run_in_from (a : Option Addr) (n cap m : Nat) (hm : m ≤ n) (w : World) :
    (Instr.slice 23 (.slice a n cap) (some (.int .i64 (m : Int))) none none).run Try.prog w = .ok (sliced a m n cap 1) w := by
  have hs : ∀ w : World, (sizeOf (Try.prog.elem 23)).run Try.prog w = .ok 1 w := fun w => by kernel_rfl
  rw [run_slice_l w 23 _ n cap (by kernel_rfl) .i64 m (by omega) (by omega), hs]
  simp [Result.andThen]

theorem R.while_at {α : Type} (p : α → Bool) : ∀ (l : List α) (k : Nat), (∀ x ∈ l.take k, p x = true) → (∀ x, l[k]? = some x → p x = false) → l.takeWhile p = l.take k ∧ l.dropWhile p = l.drop k
  | [], k, _, _ => by simp
  | a :: l, 0, _, h => by
    have := h a rfl
    simp [this]
  | a :: l, k + 1, h1, h2 => by
    have ha : p a = true := h1 a (by simp)
    obtain ⟨i1, i2⟩ := R.while_at p l k (fun x hx => h1 x (by simp [hx])) (fun x hx => h2 x (by simpa using hx))
    simp [ha, i1, i2]
theorem R.ins_at {keys : List Int} {ids : List ByteArray} {l : List Nat} {i k : Nat} (h1 : ∀ x ∈ l.take k, R.lek keys ids i x = false) (h2 : ∀ x, l[k]? = some x → R.lek keys ids i x = true) : R.ins keys ids l i = l.take k ++ [i] ++ l.drop k := by
  obtain ⟨e1, e2⟩ := R.while_at (fun x => !R.lek keys ids i x) l k (fun x hx => by simp [h1 x hx]) (fun x hx => by simp [h2 x hx])
  unfold R.ins
  rw [e1, e2]
  simp
theorem R.ord_mem {keys : List Int} {ids : List ByteArray} {n x k : Nat} (h : (R.ord keys ids n)[k]? = some x) : x < n := by
  have := (R.ord_sorted keys ids n).2.mem_iff.1 (List.mem_of_getElem? h)
  simpa using this
theorem R.ord_len' (keys : List Int) (ids : List ByteArray) (n : Nat) : (R.ord keys ids n).length = n := by
  rw [(R.ord_sorted keys ids n).2.length_eq]
  simp
theorem R.lek_of {keys : List Int} {ids : List ByteArray} {i x : Nat} {ki kx : Int} {si sx : ByteArray} (h1 : keys[i]? = some ki) (h2 : keys[x]? = some kx) (h3 : ids[i]? = some si) (h4 : ids[x]? = some sx) : R.lek keys ids i x = (decide (ki < kx) || (decide (ki = kx) && K.lt si sx)) := by
  unfold R.lek
  simp [List.getD, h1, h2, h3, h4]

set_option maxHeartbeats 4000000 in
theorem rorder_any (kv iv : Value) (keys : List Int) (ids : List ByteArray) (w : World) (hk : Il w kv keys) (hi : Gl .string w iv ids) (hsz : ∀ s ∈ ids, s.size ≤ maxLen) : Calls Try.prog 18 #[kv, iv] w (MadeN w (R.order keys ids)) := by
  obtain ⟨i0, hi0, hz0, hz1, hz2⟩ := info_parts Try.infoI10
  obtain ⟨a, cap, rfl, hl, hmx, hna, ho⟩ := hk.open
  obtain ⟨a2, cap2, rfl, hl2, hmx2, hna2, ho2⟩ := hi.open
  clear hk hi
  by_cases hq : keys.length = ids.length ∧ keys.length ≤ 1100
  · have HR : Hid (R.order keys ids = (R.ord keys ids keys.length).map fun i : Nat => (i : Int)) := hide (if_pos hq)
    have h1 : ((keys.length : Int) != (ids.length : Int)) = false := by simp [hq.1]
    have h2 := hq.2
    have HL := hide hq.1
    have HZ := hide hsz
    clear hq hsz
    go_enter Try.func18, Try.ntmps18
    go_wp2
    go_loopw [5, 6] (fun ov iv wr => ∃ (i : Nat) (X : List Nat), i ≤ keys.length ∧ iv = .int .i64 i ∧ X.length = i ∧ Hid (X = R.ord keys ids i) ∧ wr.ownsRow w.heap.size 3 1 ov X.length (X.map nf) ∧ Below w.heap.size w wr) (fun _ iv _ => keys.length - (intOf iv).toNat)
    case atStart => exact ⟨0, [], Nat.zero_le _, rfl, rfl, hide rfl, World.ownsRow_nil _ _ _ _, Below.refl _ _⟩
    case round =>
      obtain ⟨i, X, hi, rfl, hX, HX, hown, hbel⟩ := hrel
      rename World => wo
      have hxl : X.length ≤ 1100 := by omega
      have HXL := hide hX
      have hws := hbel.size
      by_cases hlt : i < keys.length
      · obtain ⟨bk, fk, rfl, hbk, hck⟩ := ho (by omega)
        have hil : i < ids.length := by have := unhide HL; omega
        obtain ⟨bi, fi, rfl, hbi, hci⟩ := ho2 (by omega)
        have GX := Gl.owned hown
        obtain ⟨ax, cx, rfl, lx, mx, nx, ox⟩ := GX.open
        obtain ⟨ki, hki⟩ : ∃ x, keys[i]? = some x := ⟨_, List.getElem?_eq_getElem hlt⟩
        obtain ⟨si, hsi⟩ : ∃ x, ids[i]? = some x := ⟨_, List.getElem?_eq_getElem hil⟩
        have ci := hck i ki hki
        have di := hci i si hsi
        have hsm := unhide HZ si (List.mem_of_getElem? hsi)
        have HKI := hide hki
        have HSI := hide hsi
        have HCK := hide hck
        have HCI := hide hci
        have HOX := hide ox
        have HGX := hide GX
        have HOWN := hide hown
        clear ho ho2 hki hsi hck hci ox hX GX hown
        go_wp2
        go_loopw [7, 8] (fun nv kv wr => ∃ (k : Nat) (Y : List Nat), k ≤ X.length ∧ kv = .int .i64 k ∧ Y.length = k ∧ Hid (Y = X.take k) ∧ Hid (∀ x ∈ X.take k, R.lek keys ids i x = false) ∧ wr.ownsRow wo.heap.size 3 1 nv Y.length (Y.map nf) ∧ Below wo.heap.size wo wr) (fun _ kv _ => X.length - (intOf kv).toNat)
        case atStart => exact ⟨0, [], Nat.zero_le _, rfl, rfl, hide rfl, hide (by simp), World.ownsRow_nil _ _ _ _, Below.refl _ _⟩
        case round =>
          obtain ⟨k, Y, hk, rfl, hY, HY, HLE, hownY, hbelY⟩ := hrel
          have hyl : Y.length ≤ 1100 := by omega
          have HYL := hide hY
          have hBs := hbelY.size
          have bww : Below w.heap.size w wr := below_trans' hbel hbelY
          have ci' := cell10 ci bww hbk
          have di' := cell10 di bww hbi
          clear hY
          by_cases hkx : k < X.length
          · obtain ⟨bx, fx, rfl, hbx, hcx⟩ := unhide HOX (by omega)
            obtain ⟨x, hx⟩ : ∃ x, X[k]? = some x := ⟨_, List.getElem?_eq_getElem hkx⟩
            have cx1 := cell10 (hcx k x hx) hbelY hbx
            have hxi : x < i := R.ord_mem (by rw [← unhide HX]; exact hx)
            have hxk : x < keys.length := by omega
            have hxd : x < ids.length := by omega
            obtain ⟨kx, hkx2⟩ : ∃ y, keys[x]? = some y := ⟨_, List.getElem?_eq_getElem hxk⟩
            obtain ⟨sx, hsx⟩ : ∃ y, ids[x]? = some y := ⟨_, List.getElem?_eq_getElem hxd⟩
            have ck := cell10 (unhide HCK x kx hkx2) bww hbk
            have dk := cell10 (unhide HCI x sx hsx) bww hbi
            have hlek := R.lek_of (unhide HKI) hkx2 (unhide HSI) hsx
            have HXX := hide hx
            clear hcx hx hkx2 hsx
            have stop : R.lek keys ids i x = true → Hid (R.ord keys ids (i + 1) = X.take k ++ [i] ++ X.drop k) := fun h9 => by
              show R.ins keys ids (R.ord keys ids i) i = _
              rw [← unhide HX]
              exact R.ins_at (unhide HLE) (fun y hy => by rw [unhide HXX] at hy; cases hy; exact h9)
            have onward : R.lek keys ids i x = false → Hid (∀ y ∈ X.take (k + 1), R.lek keys ids i y = false) := fun h9 => by
              intro y hy
              obtain ⟨hk9, e9⟩ := List.getElem?_eq_some_iff.1 (unhide HXX)
              rw [List.take_succ_eq_append_getElem hk9, e9] at hy
              rcases List.mem_append.1 hy with h8 | h8
              · exact unhide HLE y h8
              · simp only [List.mem_singleton] at h8
                rw [h8]; exact h9
            have htk : Hid (X.take (k + 1) = X.take k ++ [x]) := by
              obtain ⟨hk9, e9⟩ := List.getElem?_eq_some_iff.1 (unhide HXX)
              show _ = _
              rw [List.take_succ_eq_append_getElem hk9, e9]
            have HSTOP := hide stop
            have HON := hide onward
            clear stop onward
            by_cases h3 : ki < kx
            · have hlt2 : R.lek keys ids i x = true := by rw [hlek]; simp [h3]
              have h3' : decide (ki < kx) = true := decide_eq_true h3
              clear hlek
              obtain ⟨sa, sn, sc, hs⟩ : ∃ sa sn sc, sliced (some ⟨bx, fx, none⟩) k X.length cx 1 = .slice sa sn sc := ⟨_, _, _, rfl⟩
              have hsl : ∀ w : World, (Instr.slice 23 (.slice (some ⟨bx, fx, none⟩) X.length cx) (some (.int .i64 (k : Int))) none none).run Try.prog w = .ok (.slice sa sn sc) w := fun w => (run_in_from (some ⟨bx, fx, none⟩) X.length cx k hk w).trans (by rw [hs])
              have G9 : Gl nf wo (.slice sa sn sc) (X.drop k) := by rw [← hs]; exact (unhide HGX).cut10 k hk
              have HST : Hid (R.ord keys ids (i + 1) = X.take k ++ [i] ++ X.drop k) := unhide HSTOP hlt2
              have HG9 := hide G9
              clear hs G9

              go_wp2
              go_quiet (fail)
              obtain ⟨W1, hW1⟩ : ∃ W1, W1 = wr.drewN nq := ⟨_, rfl⟩
              rw [← hW1]
              have O1 : W1.ownsRow wo.heap.size 3 1 u7 Y.length (Y.map nf) := by rw [hW1]; exact hownY
              have B1 : Below wo.heap.size wo W1 := by rw [hW1]; exact below_dr hbelY _
              have hBs1 := B1.size
              have cx2 : W1.cell? ⟨bx, fx + k, none⟩ = some (.int .i64 (x : Int)) := by rw [hW1]; exact cx1
              clear hW1 hownY hbelY hBs

              go_wp2_with (first
                | (at_builtin; refine append_oneG (f := nf) (y := i) rfl (.tmp 81) (.tmp 83) 23 rfl Try.underlying23 hi0 hz0 hz1 hz2 rfl (fun _ => rfl) rfl rfl O1 B1 hBs1 (by omega) (by decide) ?_; intro v2 w2 O2 B2)
                | (at_builtin; refine append_allG (f := nf) (zs := X.drop k) rfl (.tmp 85) (.tmp 88) 23 rfl Try.underlying23 hi0 hz0 hz1 hz2 rfl (fun _ => rfl) rfl rfl ((unhide HG9).below B2) O2 B2 B2.size (by simp; omega) (by decide) ?_; intro v3 w3 O3 B3))
              have HL3 : Hid ((Y ++ [i]) ++ X.drop k = R.ord keys ids (i + 1)) := by
                show _ = _
                rw [unhide HST, unhide HY]
              have HO3 := hide O3
              have HB3 := hide (below_trans' hbel B3)
              clear O1 B1 O2 B2 O3 B3
              go_roundw
              case rel => exact ⟨i + 1, (Y ++ [i]) ++ X.drop k, by omega, by go_num, by rw [unhide HL3, R.ord_len'], HL3, own_mono (unhide HO3) hws, unhide HB3⟩
              case measure => simp [intOf]; omega
            · have h3' : decide (ki < kx) = false := decide_eq_false h3
              by_cases h4 : ki = kx
              · have h4' : (ki == kx) = true := by simpa using h4
                cases h5 : K.lt si sx with
                | true =>
                  have hlt2 : R.lek keys ids i x = true := by rw [hlek]; simp [h4, h5]
                  have HLT := hide h5
                  have H4 := hide h4
                  clear hlek h5 h4 h3
                  obtain ⟨sa, sn, sc, hs⟩ : ∃ sa sn sc, sliced (some ⟨bx, fx, none⟩) k X.length cx 1 = .slice sa sn sc := ⟨_, _, _, rfl⟩
                  have hsl : ∀ w : World, (Instr.slice 23 (.slice (some ⟨bx, fx, none⟩) X.length cx) (some (.int .i64 (k : Int))) none none).run Try.prog w = .ok (.slice sa sn sc) w := fun w => (run_in_from (some ⟨bx, fx, none⟩) X.length cx k hk w).trans (by rw [hs])
                  have G9 : Gl nf wo (.slice sa sn sc) (X.drop k) := by rw [← hs]; exact (unhide HGX).cut10 k hk
                  have HST : Hid (R.ord keys ids (i + 1) = X.take k ++ [i] ++ X.drop k) := unhide HSTOP hlt2
                  have HG9 := hide G9
                  clear hs G9

                  go_wp2
                  go_quiet ((go_at_call 35; refine Calls.quiet_of (below_b _ _ _ hsm _ (unhide HLT))))
                  obtain ⟨W1, hW1⟩ : ∃ W1, W1 = wr.drewN nq := ⟨_, rfl⟩
                  rw [← hW1]
                  have O1 : W1.ownsRow wo.heap.size 3 1 u7 Y.length (Y.map nf) := by rw [hW1]; exact hownY
                  have B1 : Below wo.heap.size wo W1 := by rw [hW1]; exact below_dr hbelY _
                  have hBs1 := B1.size
                  have cx2 : W1.cell? ⟨bx, fx + k, none⟩ = some (.int .i64 (x : Int)) := by rw [hW1]; exact cx1
                  clear hW1 hownY hbelY hBs

                  go_wp2_with (first
                    | (at_builtin; refine append_oneG (f := nf) (y := i) rfl (.tmp 81) (.tmp 83) 23 rfl Try.underlying23 hi0 hz0 hz1 hz2 rfl (fun _ => rfl) rfl rfl O1 B1 hBs1 (by omega) (by decide) ?_; intro v2 w2 O2 B2)
                    | (at_builtin; refine append_allG (f := nf) (zs := X.drop k) rfl (.tmp 85) (.tmp 88) 23 rfl Try.underlying23 hi0 hz0 hz1 hz2 rfl (fun _ => rfl) rfl rfl ((unhide HG9).below B2) O2 B2 B2.size (by simp; omega) (by decide) ?_; intro v3 w3 O3 B3))
                  have HL3 : Hid ((Y ++ [i]) ++ X.drop k = R.ord keys ids (i + 1)) := by
                    show _ = _
                    rw [unhide HST, unhide HY]
                  have HO3 := hide O3
                  have HB3 := hide (below_trans' hbel B3)
                  clear O1 B1 O2 B2 O3 B3
                  go_roundw
                  case rel => exact ⟨i + 1, (Y ++ [i]) ++ X.drop k, by omega, by go_num, by rw [unhide HL3, R.ord_len'], HL3, own_mono (unhide HO3) hws, unhide HB3⟩
                  case measure => simp [intOf]; omega
                | false =>
                  have hlf : R.lek keys ids i x = false := by rw [hlek]; simp [h3, h5]
                  have HLT := hide h5
                  have H4 := hide h4
                  clear hlek h5 h4 h3
                  have HLE2 := unhide HON hlf

                  go_wp2
                  go_quiet ((go_at_call 35; refine Calls.quiet_of (below_b _ _ _ hsm _ (unhide HLT))))
                  obtain ⟨W1, hW1⟩ : ∃ W1, W1 = wr.drewN nq := ⟨_, rfl⟩
                  rw [← hW1]
                  have O1 : W1.ownsRow wo.heap.size 3 1 u7 Y.length (Y.map nf) := by rw [hW1]; exact hownY
                  have B1 : Below wo.heap.size wo W1 := by rw [hW1]; exact below_dr hbelY _
                  have hBs1 := B1.size
                  have cx2 : W1.cell? ⟨bx, fx + k, none⟩ = some (.int .i64 (x : Int)) := by rw [hW1]; exact cx1
                  clear hW1 hownY hbelY hBs

                  go_wp2_with (at_builtin; refine append_oneG (f := nf) (y := x) rfl _ _ 23 rfl Try.underlying23 hi0 hz0 hz1 hz2 rfl (fun _ => rfl) rfl rfl O1 B1 hBs1 (by omega) (by decide) ?_; intro v2 w2 O2 B2)
                  go_roundw
                  case rel => exact ⟨k + 1, Y ++ [x], by omega, by go_num, by simp [unhide HYL], hide (by rw [unhide htk, unhide HY]), HLE2, O2, B2⟩
                  case measure => simp [intOf]; omega
              · have h4' : (ki == kx) = false := by simpa using h4
                have hlf : R.lek keys ids i x = false := by rw [hlek]; simp [h3, h4]
                clear hlek h4 h3
                have HLE2 := unhide HON hlf

                go_wp2
                go_quiet (fail)
                obtain ⟨W1, hW1⟩ : ∃ W1, W1 = wr.drewN nq := ⟨_, rfl⟩
                rw [← hW1]
                have O1 : W1.ownsRow wo.heap.size 3 1 u7 Y.length (Y.map nf) := by rw [hW1]; exact hownY
                have B1 : Below wo.heap.size wo W1 := by rw [hW1]; exact below_dr hbelY _
                have hBs1 := B1.size
                have cx2 : W1.cell? ⟨bx, fx + k, none⟩ = some (.int .i64 (x : Int)) := by rw [hW1]; exact cx1
                clear hW1 hownY hbelY hBs

                go_wp2_with (at_builtin; refine append_oneG (f := nf) (y := x) rfl _ _ 23 rfl Try.underlying23 hi0 hz0 hz1 hz2 rfl (fun _ => rfl) rfl rfl O1 B1 hBs1 (by omega) (by decide) ?_; intro v2 w2 O2 B2)
                go_roundw
                case rel => exact ⟨k + 1, Y ++ [x], by omega, by go_num, by simp [unhide HYL], hide (by rw [unhide htk, unhide HY]), HLE2, O2, B2⟩
                case measure => simp [intOf]; omega
          · have hkd : decide ((k : Int) < (X.length : Int)) = false := by simp; omega
            obtain ⟨sa, sn, sc, hs⟩ : ∃ sa sn sc, sliced ax k X.length cx 1 = .slice sa sn sc := ⟨_, _, _, rfl⟩
            have hsl : ∀ w : World, (Instr.slice 23 (.slice ax X.length cx) (some (.int .i64 (k : Int))) none none).run Try.prog w = .ok (.slice sa sn sc) w := fun w => (run_in_from ax X.length cx k hk w).trans (by rw [hs])
            have G9 : Gl nf wo (.slice sa sn sc) (X.drop k) := by rw [← hs]; exact (unhide HGX).cut10 k hk
            have HST : Hid (R.ord keys ids (i + 1) = X.take k ++ [i] ++ X.drop k) := by
              show R.ins keys ids (R.ord keys ids i) i = _
              rw [← unhide HX]
              exact R.ins_at (unhide HLE) (fun y hy => by rw [List.getElem?_eq_none (by omega)] at hy; cases hy)
            have HG9 := hide G9
            clear hs G9

            go_wp2
            go_quiet (fail)
            obtain ⟨W1, hW1⟩ : ∃ W1, W1 = wr.drewN nq := ⟨_, rfl⟩
            rw [← hW1]
            have O1 : W1.ownsRow wo.heap.size 3 1 u7 Y.length (Y.map nf) := by rw [hW1]; exact hownY
            have B1 : Below wo.heap.size wo W1 := by rw [hW1]; exact below_dr hbelY _
            have hBs1 := B1.size
            clear hW1 hownY hbelY hBs

            go_wp2_with (first
              | (at_builtin; refine append_oneG (f := nf) (y := i) rfl (.tmp 81) (.tmp 83) 23 rfl Try.underlying23 hi0 hz0 hz1 hz2 rfl (fun _ => rfl) rfl rfl O1 B1 hBs1 (by omega) (by decide) ?_; intro v2 w2 O2 B2)
              | (at_builtin; refine append_allG (f := nf) (zs := X.drop k) rfl (.tmp 85) (.tmp 88) 23 rfl Try.underlying23 hi0 hz0 hz1 hz2 rfl (fun _ => rfl) rfl rfl ((unhide HG9).below B2) O2 B2 B2.size (by simp; omega) (by decide) ?_; intro v3 w3 O3 B3))
            have HL3 : Hid ((Y ++ [i]) ++ X.drop k = R.ord keys ids (i + 1)) := by
              show _ = _
              rw [unhide HST, unhide HY]
            have HO3 := hide O3
            have HB3 := hide (below_trans' hbel B3)
            clear O1 B1 O2 B2 O3 B3
            go_roundw
            case rel => exact ⟨i + 1, (Y ++ [i]) ++ X.drop k, by omega, by go_num, by rw [unhide HL3, R.ord_len'], HL3, own_mono (unhide HO3) hws, unhide HB3⟩
            case measure => simp [intOf]; omega
      · go_wp2
        go_ret
        have hik : i = keys.length := by omega
        rw [unhide HR]
        refine ⟨_, rfl, ?_, hbel⟩
        have hX2 := unhide HX
        rw [hik] at hX2
        rw [← hX2, List.length_map, List.map_map]
        exact hown
  · have HR : Hid (R.order keys ids = []) := hide (if_neg hq)
    by_cases h1 : keys.length = ids.length
    · have h2 : (1100 : Int) < (keys.length : Int) := by omega
      have h3 : ((keys.length : Int) != (ids.length : Int)) = false := by simp [h1]
      clear hq h1 ho ho2 hsz
      go_enter Try.func18, Try.ntmps18
      go_wp2
      go_ret
      rw [unhide HR]
      exact ⟨_, rfl, World.ownsRow_nil _ _ _ _, Below.refl _ _⟩
    · have h3 : ((keys.length : Int) != (ids.length : Int)) = true := by simp; omega
      clear hq ho ho2 hsz
      go_enter Try.func18, Try.ntmps18
      go_wp2
      go_ret
      rw [unhide HR]
      exact ⟨_, rfl, World.ownsRow_nil _ _ _ _, Below.refl _ _⟩
end Go.Proofs.Ytggojmnalmjapaa
