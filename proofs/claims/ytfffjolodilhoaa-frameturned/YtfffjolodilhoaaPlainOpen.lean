/-
  What follows of frames, in plain mathematics: what is wrapped is opened as it; what is cut, or has more behind it, is none; what is opened, wrapped again, is the same.
-/
import Derived.Test.YtfffjolodilhoaaPlainFrame
namespace Go.Proofs.Ytfffjolodilhoaa.F

theorem frame_cons (kind : Int) (b : List Int) : frame kind b = 70 :: kind :: (V.put b.length ++ (b ++ C.four (C.sum (body kind b)))) := by
  simp [frame, body]

theorem body_take {l r : List Int} {kind : Int} {n k : Nat} (hlr : l = 70 :: kind :: r) (hp : V.put n = r.take k) (hlen : l.length = 2 + k + n + 4) :
    body kind ((l.drop (2 + k)).take n) = l.take (2 + k + n) := by
  have hx : ((l.drop (2 + k)).take n).length = n := by simp; omega
  have e : l.take (2 + k + n) = l.take (2 + k) ++ (l.drop (2 + k)).take n := by
    rw [List.take_add]
  unfold body
  rw [hx, hp, e]
  congr 1
  rw [hlr, show 2 + k = k + 1 + 1 by omega]
  simp

/-- What the document's Open asks, whether the frame of what is within is all, is whether the sum is right. -/
theorem wrap_same {l r : List Int} {kind : Int} {n k : Nat} (hlr : l = 70 :: kind :: r) (hp : V.put n = r.take k) (hn : n ≤ 65536) (hlen : l.length = 2 + k + n + 4) :
    (wrap kind ((l.drop (2 + k)).take n) = l) ↔ C.four (C.sum (l.take (2 + k + n))) = l.drop (2 + k + n) := by
  have hx : ((l.drop (2 + k)).take n).length = n := by simp; omega
  rw [wrap_in (by omega), frame, body_take hlr hp hlen]
  constructor
  · intro h
    conv at h => rhs; rw [← List.take_append_drop (2 + k + n) l]
    exact List.append_cancel_left h
  · intro h
    rw [h, List.take_append_drop]

theorem opened_frame {kind : Int} {b : List Int} (h : b.length ≤ 65536) : opened (frame kind b) kind = (b, 0) := by
  have hg := V.getH_put b.length (b ++ C.four (C.sum (body kind b))) (by omega) (by unfold V.Top; omega)
  have hl : (frame kind b).length = 2 + (V.put b.length).length + b.length + 4 := by rw [frame_len]; omega
  have hc := frame_cons kind b
  rw [hc] at hl ⊢
  rw [opened_rest hg h hl, ← hc]
  have hbl : (body kind b).length = 2 + (V.put b.length).length + b.length := body_len kind b
  have e1 : (frame kind b).take (2 + (V.put b.length).length + b.length) = body kind b := by
    rw [frame, ← hbl, List.take_left]
  have e2 : (frame kind b).drop (2 + (V.put b.length).length + b.length) = C.four (C.sum (body kind b)) := by
    rw [frame, ← hbl, List.drop_left]
  unfold rest
  rw [e1, e2, if_pos rfl]
  have e3 : frame kind b = ([70, kind] ++ V.put b.length) ++ (b ++ C.four (C.sum (body kind b))) := by simp [frame, body]
  have e4 : 2 + (V.put b.length).length = ([70, kind] ++ V.put b.length).length := by simp; omega
  rw [e3, e4, List.drop_left, List.take_left]

theorem opened_other {kind other : Int} {b : List Int} (h : kind ≠ other) : opened (frame kind b) other = ([], 5) := by
  rw [frame_cons]
  exact opened_head (fun h2 => h h2.2)

theorem opened_more {kind : Int} {b more : List Int} (h : b.length ≤ 65536) (hm : 0 < more.length) : opened (frame kind b ++ more) kind = ([], 5) := by
  have hg := V.getH_put b.length (b ++ C.four (C.sum (body kind b)) ++ more) (by omega) (by unfold V.Top; omega)
  have hl := frame_len kind b
  rw [frame_cons] at hl ⊢
  simp only [List.cons_append, List.append_assoc] at hg ⊢
  refine opened_size hg (fun hc => ?_)
  simp only [List.length_cons, List.length_append] at hl hc
  omega

theorem opened_cut {kind : Int} {b : List Int} {cut : Nat} (h : b.length ≤ 65536) (hc : cut < (frame kind b).length) : opened ((frame kind b).take cut) kind = ([], 5) := by
  by_cases h2 : cut < 2
  · exact opened_short (by simp; omega)
  · obtain ⟨j, rfl⟩ : ∃ j, cut = j + 1 + 1 := ⟨cut - 2, by omega⟩
    have hl := frame_len kind b
    rw [frame_cons] at hc hl ⊢
    simp only [List.take_succ_cons]
    by_cases hj : j < (V.put b.length).length
    · refine opened_none ?_
      rw [List.take_append_of_le_length (by omega)]
      exact V.getH_cut 4 b.length j (by omega) hj
    · obtain ⟨i, rfl⟩ : ∃ i, j = (V.put b.length).length + i := ⟨j - (V.put b.length).length, by omega⟩
      rw [List.take_length_add_append]
      have hg := V.getH_put b.length ((b ++ C.four (C.sum (body kind b))).take i) (by omega) (by unfold V.Top; omega)
      refine opened_size hg (fun hx => ?_)
      simp only [List.length_cons, List.length_append, List.length_take] at hl hx hc
      omega

/-- What Open answers: a frame's within, or nothing and one of the two errors. -/
theorem opened_cases {l : List Int} {kind : Int} (hb : V.Byt l) : (opened l kind = ([], 5) ∨ opened l kind = ([], 6)) ∨ ((opened l kind).2 = 0 ∧ (opened l kind).1.length ≤ 65536 ∧ V.Byt (opened l kind).1 ∧ wrap kind (opened l kind).1 = l) := by
  by_cases h2 : l.length < 2
  · exact .inl (.inl (opened_short h2))
  · obtain ⟨c0, c1, r, hlr⟩ : ∃ c0 c1 r, l = c0 :: c1 :: r := by
      match l, h2 with
      | [], h2 => simp at h2
      | [_], h2 => simp at h2
      | c0 :: c1 :: r, _ => exact ⟨c0, c1, r, rfl⟩
    by_cases hh : c0 = 70 ∧ c1 = kind
    · obtain ⟨rfl, rfl⟩ := hh
      cases hg : V.getH 5 r with
      | none => exact .inl (.inl (by rw [hlr]; exact opened_none hg))
      | some y =>
        obtain ⟨n, k⟩ := y
        have hbr : V.Byt r := by rw [hlr] at hb; exact hb.tail.tail
        obtain ⟨g1, g2, g3, g4, g5⟩ := V.put_getH hbr hg
        obtain ⟨m, rfl⟩ := Int.eq_ofNat_of_zero_le g2
        by_cases hn : m ≤ 65536 ∧ l.length = 2 + k + m + 4
        · have e : opened l c1 = rest l m (2 + k) := by rw [hlr]; rw [hlr] at hn; exact opened_rest hg hn.1 hn.2
          have ws := wrap_same hlr g1 hn.1 hn.2
          rw [e]
          unfold rest
          by_cases hd : C.four (C.sum (l.take (2 + k + m))) = l.drop (2 + k + m)
          · right
            rw [if_pos hd]
            refine ⟨rfl, ?_, ?_, ws.2 hd⟩
            · simp; omega
            · exact (hb.drop _).take _
          · left; right
            rw [if_neg hd]
        · exact .inl (.inl (by rw [hlr]; rw [hlr] at hn; exact opened_size hg (by omega)))
    · exact .inl (.inl (by rw [hlr]; exact opened_head hh))

end Go.Proofs.Ytfffjolodilhoaa.F
