/-
  The walk of the law of bytes that are unpacked, and packed again.
-/
import Derived.Test.YtonhehhmnobciaaK25
namespace Go.Proofs.Ytonhehhmnobciaa
set_option maxRecDepth 100000
open Go.RowKit

theorem MayP.ids_max {s : Sg} {so : Bool} (h : MayP s so) : ∀ x ∈ s.ids, x.size ≤ maxLen := fun x hx => by
  have := h.id x hx
  unfold maxLen
  omega
theorem MayP.ts_max {s : Sg} {so : Bool} (h : MayP s so) : s.ts.length ≤ 3518437208780 := by
  have := D.may_len h.words
  rw [List.length_map] at this
  omega
/-- What Unpack tells: a segment that may be, whose bytes these are, or none and one of the two errors. -/
theorem un_cases {l : List Int} (hb : V.Byt l) {g : Sg} {so : Bool} {er : Int} (hu : UnP l g so er) : (er = 0 ∧ MayP g so ∧ F.wrap 83 (J.inner g so) = l) ∨ ((er = 5 ∨ er = 6) ∧ g = Sg.none ∧ so = false) := by
  have hc := F.opened_cases (kind := 83) hb
  rcases hu with ⟨h1, h2, h3, h4⟩ | ⟨h1, h2, h3, h4, h5⟩ | ⟨h1, h2, h3, h4, h5⟩
  · refine .inr ⟨?_, h3, h4⟩
    rcases hc with (e | e) | ⟨e, -⟩
    · rw [e] at h2; exact .inl h2
    · rw [e] at h2; exact .inr h2
    · exact absurd e h1
  · left
    rcases hc with (e | e) | ⟨-, e1, e2, e3⟩
    · rw [e] at h1; cases h1
    · rw [e] at h1; cases h1
    · obtain ⟨k1, k2, k3⟩ := h2
      have := (J.inner_read e2 k1 k2).1
      rw [h4, h5]
      exact ⟨h3, k3, by rw [this]; exact e3⟩
  · exact .inr ⟨.inl h3, h4, h5⟩

set_option maxRecDepth 100000 in
set_option maxHeartbeats 4000000 in
theorem packOnce_walk (v : Value) (l : List Int) (w : World) (h : Sl .u8 w v l) (hb : V.Byt l) :
    Calls Try.prog 5 #[v] w fun e w' => e = .returned (.bool true) ∧ Below w.heap.size w w' := by
  have HS := hide h
  obtain ⟨a, cap, rfl, -⟩ := id h
  have HBT := hide hb
  clear h hb
  go_enter Try.func5, Try.ntmps5
  go_wp2_with fail
  refine (awake9_any w).mono ?_
  rintro e w1 ⟨rfl, B1⟩
  by_cases hl : 3000 < l.length
  · have q1 : (3000 : Int) < (l.length : Int) := by omega
    go_wp2
    go_ret
    exact ⟨rfl, B1⟩
  have q1 : ¬ (3000 : Int) < (l.length : Int) := by omega
  go_wp2_with fail
  refine (unpack9_any _ l w1 ((unhide HS).below B1) (unhide HBT)).mono ?_
  rintro e w2 ⟨iv, kv, lv, tv, so, er, g, rfl, S2, U2, B2⟩
  obtain ⟨ia, ka, lna, ta, ic, kc, lnc, tc, rfl, rfl, rfl, rfl⟩ := S2.shape
  have Z2 := SB.new (so := so) S2
  obtain ⟨W2, hW2⟩ : ∃ W2, W2 = w2.alloc (.cells #[.slice ia g.ids.length ic, .slice ka g.keys.length kc, .slice lna g.lens.length lnc, .slice ta g.ts.length tc, .bool so] 31) := ⟨_, rfl⟩
  have BW2 : Below w2.heap.size w2 W2 := by rw [hW2]; exact below_alloc _ _
  rw [← hW2] at Z2
  obtain ⟨p2, hp2⟩ : ∃ p2, p2 = w2.heap.size := ⟨_, rfl⟩
  rw [← hp2] at Z2
  have BB2 := below_trans' (below_trans' B1 B2) BW2
  have HS2 := hide ((((unhide HS).below B1).below B2).below BW2)
  have HW2 := hide hW2
  have HP2 := hide hp2
  have HZ2 := hide Z2
  have hcs := un_cases (unhide HBT) U2
  clear hW2 hp2 Z2 S2 U2 B2 B1 BW2 HS
  rcases hcs with ⟨rfl, hM, hF⟩ | ⟨her, rfl, rfl⟩
  · have HM := hide hM
    have CP := pack9_any ia ka lna ta ic kc lnc tc g so W2 (unhide HZ2).sv hM.ids_max hM.ts_max
    unfold PkEnd at CP
    rw [hF] at CP
    clear hM hF
    go_wp2_with fail
    rw [← unhide HW2, ← unhide HP2]
    refine CP.mono ?_
    rintro e w3 (⟨-, v3, rfl, O3, B3⟩ | ⟨hn, -⟩)
    case inr => exact absurd (unhide HM) hn
    obtain ⟨pa, pc, hv3, -⟩ := id (Sl.owned O3)
    subst hv3
    have HZ3 := hide ((unhide HZ2).below B3)
    have BB3 := below_trans' BB2 B3
    have S3 := (unhide HS2).below B3
    have CB := bytes_b _ _ l l w3 (Sl.owned O3) S3 true (by simp)
    clear CP B3 BB2 HZ2 O3 S3 HW2 HP2
    go_wp2_with fail
    refine CB.mono ?_
    rintro e w4 ⟨rfl, B4⟩
    have HZ4 := hide ((unhide HZ3).below B4)
    have BB4 := below_trans' BB3 B4
    clear CB B4 BB3 HZ3
    have c0 : w4.cell? ⟨p2, 0, none⟩ = some (.slice ia g.ids.length ic) := (unhide HZ4).c0
    have c1 : w4.cell? ⟨p2, 1, none⟩ = some (.slice ka g.keys.length kc) := (unhide HZ4).c1
    have c2 : w4.cell? ⟨p2, 2, none⟩ = some (.slice lna g.lens.length lnc) := (unhide HZ4).c2
    have c3 : w4.cell? ⟨p2, 3, none⟩ = some (.slice ta g.ts.length tc) := (unhide HZ4).c3
    have c4 : w4.cell? ⟨p2, 4, none⟩ = some (.bool so) := (unhide HZ4).c4
    go_wp2_with (go_at_call 17; refine (segMay_all ia ka lna ta ic kc lnc tc g so w4 (unhide HZ4).sv (unhide HM).ids_max (unhide HM).ts_max).mono ?_; rintro e w6 ⟨r6, rfl, hr6, B6⟩; obtain rfl : r6 = true := hr6.2 (unhide HM))
    go_ret
    exact ⟨rfl, below_trans' BB4 B6⟩
  · have CS := rsegSame_any ia ka lna ta ic kc lnc tc Sg.none false none none none none 0 0 0 0 W2 (unhide HZ2).sv (Sv.none W2)
    rcases her with rfl | rfl
    · go_wp2_with fail
      rw [← unhide HW2]
      refine CS.mono ?_
      rintro e w3 ⟨rfl, B3⟩
      go_wp2
      go_ret
      exact ⟨rfl, below_trans' BB2 B3⟩
    · go_wp2_with fail
      rw [← unhide HW2]
      refine CS.mono ?_
      rintro e w3 ⟨rfl, B3⟩
      go_wp2
      go_ret
      exact ⟨rfl, below_trans' BB2 B3⟩
end Go.Proofs.Ytonhehhmnobciaa
