/-
  The contract of runs: the longest runs of signs of words, in small letters, of a text that is UTF-8.
-/
import Derived.Test.YtpmbgbahoinelaaValid5
import Derived.Lib.OthersKept
import Derived.WalkSmall
namespace Go.Proofs.Ytpmbgbahoinelaa
open Go.RowKit

theorem Try.info9 : (Try.prog.info? 9).map (fun i => (i.zero, i.size, i.bytes)) = some (some (.string ⟨#[]⟩), 1, 16) := by kernel_rfl
theorem Try.info21 : (Try.prog.info? 21).map (fun i => (i.zero, i.size, i.bytes)) = some (some (.int .i32 0), 1, 4) := by kernel_rfl

/-- A row of another kind stays while one is appended to. -/
theorem own_other {w w' : World} {B B' e e' size size' n n' : Nat} {v v' : Value} {xs xs' : List Value} (h : w.ownsRow B e size v n xs) (h' : w.ownsRow B' e' size' v' n' xs') (hne : e ≠ e')
    (hg : ∀ k, k < w.heap.size → some k ≠ v.ownBlock → w'.heap[k]? = w.heap[k]?) : w'.ownsRow B' e' size' v' n' xs' := by
  refine ⟨h'.1, ?_⟩
  rcases h'.2 with h0 | ⟨g, cap, cur, rfl, hb, hgg, rest⟩
  · exact .inl h0
  · refine .inr ⟨g, cap, cur, rfl, hb, ?_, rest⟩
    rw [hg g (Array.getElem?_eq_some_iff.1 hgg).1 ?_]
    · exact hgg
    · rcases h.2 with ⟨rfl, _⟩ | ⟨g2, cap2, cur2, rfl, _, hg2, _⟩
      · simp [Value.ownBlock]
      · intro e1
        simp only [Value.ownBlock, Option.some.injEq] at e1
        subst e1
        rw [hgg] at hg2
        simp only [Option.some.injEq, Obj.cells.injEq] at hg2
        exact hne hg2.2.1.symm

section
variable {α : Type} {f : α → Value}
/-- 'out = append(out, y)', and all else stays. -/
theorem append_oneK {P : Program} {ops : Array Oper} {rest : List Oper} {o : Oper} {a : Act} {Q : Exit → Act → World → Prop} {w0 wr : World} (hgd : o.guard = none) (s x : Operand) (t : TypeId)
    (ho : o.op = .call { callee := .builtin .append, args := #[s, x], argTypes := #[t, t] }) {B : Nat} {e : TypeId} {i : TypeInfo} {z : Value} {bytes : Nat}
    (ht : P.underlying t = some (.slice e)) (hi : P.info? e = some i) (hz : i.zero = some z) (hsize : i.size = 1) (hby : i.bytes = bytes) (hzs : z.cells.size = 1)
    (hf : ∀ y, (f y).oneCell' = true) {pre : List α} {y : α} {v : Value} (hs : a.eval s = v) (hx : a.eval x = .slice (some ⟨wr.heap.size, 0, none⟩) 1 1)
    (hown : wr.ownsRow B e 1 v pre.length (pre.map f)) {B0 : Nat} (hbel : Below B0 w0 wr) (hB0 : B0 ≤ B) (hB : B ≤ wr.heap.size) (hlen : pre.length ≤ 4294967296) (hb8 : bytes ≤ 16)
    (h : ∀ v' w', w'.ownsRow B e 1 v' (pre ++ [y]).length ((pre ++ [y]).map f) → Below B0 w0 w' → (∀ k, k < wr.heap.size → some k ≠ v.ownBlock → w'.heap[k]? = wr.heap[k]?) → wr.heap.size ≤ w'.heap.size → wpList P ops Q rest (a.put o.dst v') w') :
    wpList P ops Q (o :: rest) a (wr.alloc (.cells #[f y] e)) := by
  refine wpList_append_own _ hgd s x t ho B e i z 1 bytes ht hi hz hsize hby hzs (by decide) v pre.length _ hs (hown.alloc _) ⟨wr.heap.size, 0, none⟩ 1 1 [f y] hx rfl ?_ ?_ ?_ ?_ ?_ ?_
  · intro j u hj
    match j, hj with
    | 0, hj => simp at hj; subst hj; simp [Addr.add]
  · intro u hu; simp at hu; subst hu; exact hf y
  · unfold maxLen; omega
  · have h1 : (pre.length + 1) * bytes ≤ 4294967297 * 16 := Nat.mul_le_mul (by omega) hb8
    omega
  · simp; omega
  · intro v' w1 hown' hg _
    refine h v' w1 (by simpa using hown') ((hbel.alloc (by omega) _).grown hg (by simp; omega) (fun j hj => by have := (hown.lt j hj).1; omega)) (fun k hk hne => ?_) ?_
    · rw [hg.block k (by simp; omega) hne, Below.heap_alloc _ _ _ hk]
    · have := hg.size
      simp at this
      omega
end

theorem Try.conv_runes (w : World) (v : Value) (rs : List Int) {B n : Nat} (h : w.ownsRow B 21 1 v n (rs.map (Value.int .i32))) : (convert 41 9 v).run Try.prog w = .ok (.string (runesBytes rs)) w := by
  obtain ⟨a, cap, rfl, hl, hm, hn, hc⟩ := Sl.owned h
  cases a with
  | none =>
    have : rs = [] := List.eq_nil_of_length_eq_zero (by have := hn rfl; omega)
    subst this
    exact run_convert_runes_nil w _ _ _ _ _ Try.underlying41 Try.underlying21 Try.underlying9
  | some a =>
    have := run_convert_runes (P := Try.prog) w 41 9 21 a rs.length cap rs (Nat.le_refl _) Try.underlying41 Try.underlying21 Try.underlying9 (fun j hj => hc a rfl j hj)
    rw [List.take_length] at this
    exact this

theorem bs_append (a b : ByteArray) : T.bs (a ++ b) = T.bs a ++ T.bs b := by
  unfold T.bs
  rw [ByteArray.data_append]
  simp
theorem bs_inj {a b : ByteArray} (h : T.bs a = T.bs b) : a = b := by
  apply ByteArray.ext
  exact Array.toList_inj.1 h

/-- The words of a text. -/
def T.words (s : ByteArray) : List ByteArray := (T.wgo (T.bs s) []).map (fun l => ⟨l.toArray⟩)
theorem bs_mk (l : List UInt8) : T.bs ⟨l.toArray⟩ = l := rfl
theorem words_of {s : ByteArray} {ws : List ByteArray} (h : ws.map T.bs = T.wgo (T.bs s) []) : ws = T.words s := by
  unfold T.words
  rw [← h, List.map_map]
  conv => lhs; rw [← List.map_id ws]
  apply List.map_congr_left
  intro x _
  apply bs_inj
  rw [Function.comp_apply, bs_mk]
  rfl

set_option maxRecDepth 1000000 in
set_option maxHeartbeats 4000000 in
theorem runs_any (s : ByteArray) (w : World) (hs : s.size ≤ 1000000) (hv : T.valid (T.bs s) = true) :
    Calls Try.prog 21 #[.string s] w fun e w' => ∃ v, e = .returned v ∧ w'.ownsRow w.heap.size 9 1 v (T.words s).length ((T.words s).map Value.string) ∧ Below w.heap.size w w' := by
  obtain ⟨i9, hi9, hz90, hz91, hz92⟩ := info_parts Try.info9
  obtain ⟨i21, hi21, hz210, hz211, hz212⟩ := info_parts Try.info21
  obtain ⟨t, ht⟩ : ∃ t : ByteArray, s ++ ⟨#[32]⟩ = t := ⟨_, rfl⟩
  have hbt : T.bs t = T.bs s ++ [32] := by rw [← ht, bs_append]; rfl
  have htz : t.size = s.size + 1 := by rw [← bs_len, hbt]; simp [bs_len]
  have hadd : ∀ w : World, (Op.stringOp .add s ⟨#[32]⟩).run Try.prog w = .ok (.string t) w := fun w => by rw [run_string_add_sum w s ⟨#[32]⟩ (by show s.size + 1 ≤ _; omega), ht]
  have HV0 : Hid (T.valid (T.bs t) = true) := by show _ = _; rw [hbt, show T.bs s ++ [32] = T.bs s ++ 32 :: [] from rfl, T.valid_blank, hv]; rfl
  have HW0 : Hid (T.wdone (T.bs t) [] = T.wgo (T.bs s) []) := by show _ = _; rw [hbt]; exact T.wdone_blank _ _
  clear ht hbt hv
  go_enter Try.func21, Try.ntmps21
  go_wp2
  go_loopw [3, 4] (fun vw vr wr => ∃ (pos : Nat) (ws : List ByteArray) (rs : List Int), wr.heap[w.heap.size]? = some (.stringIter t pos) ∧ wr.ownsRow (w.heap.size + 1) 9 1 vw ws.length (ws.map Value.string) ∧ wr.ownsRow (w.heap.size + 1) 21 1 vr rs.length (rs.map (Value.int .i32)) ∧ Below w.heap.size w wr ∧ pos ≤ t.size ∧ ws.length ≤ pos ∧ rs.length ≤ pos ∧ Hid (T.valid ((T.bs t).drop pos) = true) ∧ Hid (ws.map T.bs ++ T.wdone ((T.bs t).drop pos) (T.rb rs) = T.wgo (T.bs s) [])) (fun _ _ wr => t.size - wr.iterPos w.heap.size)
  case atStart => exact ⟨0, [], [], World.iter_heap w t 0, World.ownsRow_nil _ _ _ _, World.ownsRow_nil _ _ _ _, below_alloc _ _, Nat.zero_le _, Nat.le_refl _, Nat.le_refl _, unhide HV0, unhide HW0⟩
  case round =>
    obtain ⟨pos, ws, rs, hit, how, hor, hbw, hps, hwl, hrl, HV, HW⟩ := hrel
    have hpos0 := iterPos_of hit
    by_cases hp : pos < t.size
    · obtain ⟨c, n, hd⟩ : ∃ c n, Utf8.decode t pos = (c, n) := ⟨_, _, rfl⟩
      have hnx : ∀ ty, (Instr.next (.pointer (some ⟨w.heap.size, 0, none⟩)) true ty).run Try.prog wr = .ok (.tuple #[.bool true, .int .i64 pos, .int .i32 (c : Int)]) (wr.iterAt w.heap.size t (pos + n)) := fun ty => by rw [Lib.run_next_any_at wr w.heap.size t pos ty hit hp, hd]
      have hn1 : 1 ≤ n := by have := T.dec_width ((T.bs t).drop pos); rw [← T.bs_decode, hd] at this; exact this
      have hcl : c ≤ 2147483647 := by have := decode_le t pos; rw [hd] at this; exact this
      have hdec : T.dec ((T.bs t).drop pos) = (c, n) := by rw [← hd, T.decode_dec]; rfl
      obtain ⟨hs0, hv2⟩ := T.sign_ne (drop_ne hp) (unhide HV)
      have hsg := (T.dec_good hs0).1
      rw [hdec] at hsg
      simp only at hsg
      have hle := T.sign_le_len _ (drop_ne hp)
      rw [List.length_drop, bs_len, ← hsg] at hle
      rw [← hsg, List.drop_drop] at hv2
      have HV2 := hide hv2
      have hit2 := Lib.iterAt_heap wr w.heap.size t pos (pos + n) hit
      have hbw2 := Lib.below_iterAt hbw (k := w.heap.size) (Nat.le_refl _) t (pos + n)
      have how2 := ownsRow_iterAt how (k := w.heap.size) (by omega) t (pos + n)
      have hor2 := ownsRow_iterAt hor (k := w.heap.size) (by omega) t (pos + n)
      obtain ⟨W1, hW1⟩ : ∃ W1, W1 = wr.iterAt w.heap.size t (pos + n) := ⟨_, rfl⟩
      rw [← hW1] at hnx hit2 hbw2 how2 hor2
      have hBlt : w.heap.size < W1.heap.size := (Array.getElem?_eq_some_iff.1 hit2).1
      have hpn : pos + n ≤ t.size := by omega
      cases hl : T.letter c with
      | true =>
        have hstep := T.wdone_letter (T.rb rs) (drop_ne hp) (unhide HV) (by rw [hdec]; exact hl)
        rw [hdec, ← hsg, List.drop_drop] at hstep
        simp only at hstep
        obtain ⟨y, hy⟩ : ∃ y, T.lows (c : Int) = y := ⟨_, rfl⟩
        rw [hy, ← T.rb_snoc] at hstep
        have HW2 : Hid (ws.map T.bs ++ T.wdone ((T.bs t).drop (pos + n)) (T.rb (rs ++ [y])) = T.wgo (T.bs s) []) := by show _ = _; rw [← hstep]; exact unhide HW
        have HL := hide hl
        have HY := hide hy
        clear hW1 hit how hor hbw hd hdec hs0 hv2 hsg hle hl hy hstep HW HV HV0 HW0 hadd
        go_wp2_with fail
        refine (ofWord_any c _ true (unhide HL)).mono ?_
        rintro e w1 ⟨rfl, rfl⟩
        go_wp2_with fail
        refine (small_any c (by omega) (by omega) _ y (unhide HY)).mono ?_
        rintro e w1 ⟨rfl, rfl⟩
        go_wp2_with (at_builtin; refine append_oneK (f := Value.int .i32) rfl _ _ 41 rfl Try.underlying41 hi21 hz210 hz211 hz212 rfl (fun _ => rfl) (pre := rs) rfl rfl hor2 hbw2 (Nat.le_succ _) (by omega) (by omega) (by decide) ?_; intro v3 w3 hown3 hbw3 hk3 hsz3)
        have hit3 := (hk3 w.heap.size hBlt (fun h => by have := (hor2.lt _ h.symm).1; omega)).trans hit2
        have how3 := own_other hor2 how2 (by decide) hk3
        go_roundw
        case rel => exact ⟨pos + n, ws, rs ++ [y], hit3, how3, hown3, hbw3, hpn, by omega, by simp; omega, unhide HV2, unhide HW2⟩
        case measure => rw [iterPos_of hit3, hpos0]; omega
      | false =>
        have hstep := T.wdone_non (T.rb rs) (drop_ne hp) (unhide HV) (by rw [hdec]; exact hl)
        rw [← hsg, List.drop_drop] at hstep
        have HL := hide hl
        by_cases hr0 : rs = []
        · subst hr0
          rw [if_pos T.rb_nil] at hstep
          have HW2 : Hid (ws.map T.bs ++ T.wdone ((T.bs t).drop (pos + n)) (T.rb []) = T.wgo (T.bs s) []) := by show _ = _; rw [← unhide HW, hstep]; rfl
          clear hW1 hit how hor hbw hd hdec hs0 hv2 hsg hle hl hstep HW HV HV0 HW0 hadd
          obtain ⟨ar, cr, rfl, -⟩ := id (Sl.owned hor2)
          simp only [List.length_nil] at hor2 ⊢
          go_wp2_with fail
          refine (ofWord_any c _ false (unhide HL)).mono ?_
          rintro e w1 ⟨rfl, rfl⟩
          go_wp2
          go_roundw
          case rel => exact ⟨pos + n, ws, [], hit2, how2, hor2, hbw2, hpn, by omega, by simp, unhide HV2, unhide HW2⟩
          case measure => rw [iterPos_of hit2, hpos0]; omega
        · rw [if_neg (T.rb_ne hr0)] at hstep
          obtain ⟨S, hS⟩ : ∃ S, runesBytes rs = S := ⟨_, rfl⟩
          have HW2 : Hid ((ws ++ [S]).map T.bs ++ T.wdone ((T.bs t).drop (pos + n)) (T.rb []) = T.wgo (T.bs s) []) := by
            show _ = _
            rw [← unhide HW, hstep, ← hS, List.map_append, List.append_assoc]
            rfl
          have hcv := Try.conv_runes W1 _ rs hor2
          rw [hS] at hcv
          have hrp : 0 < rs.length := List.length_pos_iff.2 hr0
          obtain ⟨g, cr, rfl, hg1, hg2⟩ := hor2.form hrp
          clear hW1 hit how hor hbw hd hdec hs0 hv2 hsg hle hl hstep HW HV HV0 HW0 hadd hr0 hS
          go_wp2_with fail
          refine (ofWord_any c _ false (unhide HL)).mono ?_
          rintro e w1 ⟨rfl, rfl⟩
          go_wp2_with (at_builtin; refine append_oneK (f := Value.string) rfl _ _ 23 rfl Try.underlying23 hi9 hz90 hz91 hz92 rfl (fun _ => rfl) (pre := ws) rfl rfl how2 hbw2 (Nat.le_succ _) (by omega) (by omega) (by decide) ?_; intro v3 w3 hown3 hbw3 hk3 hsz3)
          have hit3 := (hk3 w.heap.size hBlt (fun h => by have := (how2.lt _ h.symm).1; omega)).trans hit2
          go_roundw
          case rel => exact ⟨pos + n, ws ++ [S], [], hit3, hown3, World.ownsRow_nil _ _ _ _, hbw3, hpn, by simp; omega, by simp, unhide HV2, unhide HW2⟩
          case measure => rw [iterPos_of hit3, hpos0]; omega
    · have hnx : ∀ ty, (Instr.next (.pointer (some ⟨w.heap.size, 0, none⟩)) true ty).run Try.prog wr = _ := fun ty => Lib.run_next_end_at wr w.heap.size t pos ty hit hp
      have hws : ws = T.words s := by
        apply words_of
        have := unhide HW
        rw [drop_end hp] at this
        simpa [T.wdone] using this
      have HWS := hide hws
      clear hws HW HV HV0 HW0 hadd
      go_wp2
      go_ret
      refine ⟨_, rfl, ?_, hbw⟩
      rw [← unhide HWS]
      exact own_mono how (Nat.le_succ _)
end Go.Proofs.Ytpmbgbahoinelaa
