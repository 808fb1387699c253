/-
  The contract of the statements' own 'Few' of cards.
-/
import Derived.Test.YtonhehhmnobciaaKBase8
namespace Go.Proofs.Ytonhehhmnobciaa
set_option maxRecDepth 100000
open Go.RowKit

def FewC (L : List Cd) : Prop := L.length ≤ 70 ∧ ∀ c ∈ L, c.id.size ≤ 40 ∧ c.w.length ≤ 130 ∧ ∀ x ∈ c.w, x.size ≤ 40

def FewEnd (w : World) (L : List Cd) (e : Ending) (w' : World) : Prop := ∃ r, e = .returned (.bool r) ∧ (r = true → FewC L) ∧ w' = w

set_option maxRecDepth 100000 in
set_option maxHeartbeats 4000000 in
theorem few8_any (v : Value) (L : List Cd) (w : World) (h : Cs w v L) :
    Calls Try.prog 8 #[v] w (FewEnd w L) := by
  obtain ⟨a, cap, rfl, hl, hm, hna, ho⟩ := h.open
  clear h
  by_cases h70 : 70 < L.length
  · go_enter Try.func8, Try.ntmps8
    go_wp2
    go_ret
    exact ⟨false, rfl, (fun h => by cases h), rfl⟩
  · go_enter Try.func8, Try.ntmps8
    go_wp2
    go_loop [3] (fun iv => ∃ k : Nat, k ≤ L.length ∧ iv = .int .i64 k ∧ Hid (∀ i c, i < k → L[i]? = some c → c.id.size ≤ 40 ∧ c.w.length ≤ 130 ∧ ∀ x ∈ c.w, x.size ≤ 40)) (fun iv => L.length - (intOf iv).toNat)
    case atStart => exact ⟨0, Nat.zero_le _, rfl, hide (fun i y hi _ => by omega)⟩
    case round =>
      obtain ⟨k, hk, rfl, HA⟩ := hrel
      by_cases hlt : k < L.length
      · obtain ⟨b, off, rfl, hb, hc⟩ := ho (by omega)
        obtain ⟨c, hp⟩ : ∃ c, L[k]? = some c := ⟨L[k], List.getElem?_eq_getElem hlt⟩
        obtain ⟨wa, wc, c0, -, c2, G⟩ := hc k c hp
        have HP := hide hp
        clear ho hc hp
        by_cases h1 : 40 < c.id.size
        · go_wp2
          go_ret
          exact ⟨false, rfl, (fun h => by cases h), rfl⟩
        · by_cases h2 : 130 < c.w.length
          · go_wp2
            go_ret
            exact ⟨false, rfl, (fun h => by cases h), rfl⟩
          · obtain ⟨a', c', hv', hl', hm', hn', hoW⟩ := G.open
            simp only [Value.slice.injEq, true_and] at hv'
            obtain ⟨rfl, rfl⟩ := hv'
            clear G
            go_wp2
            go_loop [4] (fun jv => ∃ j : Nat, j ≤ c.w.length ∧ jv = .int .i64 j ∧ Hid (∀ i x, i < j → c.w[i]? = some x → x.size ≤ 40)) (fun jv => c.w.length - (intOf jv).toNat)
            case atStart => exact ⟨0, Nat.zero_le _, rfl, hide (fun i y hi _ => by omega)⟩
            case round =>
              obtain ⟨j, hj, rfl, HB⟩ := hrel
              by_cases hjt : j < c.w.length
              · obtain ⟨b2, off2, rfl, hb2, hc2⟩ := hoW (by omega)
                obtain ⟨x, hx⟩ : ∃ x, c.w[j]? = some x := ⟨c.w[j], List.getElem?_eq_getElem hjt⟩
                have d0 := hc2 j x hx
                have HX := hide hx
                clear hoW hc2 hx
                by_cases h3 : 40 < x.size
                · go_wp2
                  go_ret
                  exact ⟨false, rfl, (fun h => by cases h), rfl⟩
                · go_wp2
                  go_round
                  case rel =>
                    refine ⟨j + 1, by omega, by go_num, hide (fun i y hi hy => ?_)⟩
                    by_cases e : i = j
                    · subst e
                      rw [unhide HX] at hy
                      cases hy
                      omega
                    · exact unhide HB i y (by omega) hy
                  case measure => simp [intOf]; omega
              · clear hoW
                go_wp2
                go_round
                case rel =>
                  refine ⟨k + 1, by omega, by go_num, hide (fun i y hi hy => ?_)⟩
                  by_cases e : i = k
                  · subst e
                    rw [unhide HP] at hy
                    cases hy
                    refine ⟨by omega, by omega, fun x hx => ?_⟩
                    obtain ⟨m, hm2, e2⟩ := List.mem_iff_getElem.1 hx
                    exact unhide HB m x (by omega) (by rw [List.getElem?_eq_getElem hm2, e2])
                  · exact unhide HA i y (by omega) hy
                case measure => simp [intOf]; omega
      · clear ho
        go_wp2
        go_ret
        refine ⟨true, rfl, fun _ => ⟨by omega, fun c hc => ?_⟩, rfl⟩
        obtain ⟨m, hm2, e2⟩ := List.mem_iff_getElem.1 hc
        exact unhide HA m c (by omega) (by rw [List.getElem?_eq_getElem hm2, e2])
end Go.Proofs.Ytonhehhmnobciaa
