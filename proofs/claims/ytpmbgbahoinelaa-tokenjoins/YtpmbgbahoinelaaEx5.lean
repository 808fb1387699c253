/-
  The chapter's example holds: the contract of the statements' own 'awake' (token).
-/
import Derived.Test.YtpmbgbahoinelaaCard5
import Derived.Test.YtpmbgbahoinelaaPlainLaw5
namespace Go.Proofs.Ytpmbgbahoinelaa
open Go.RowKit

theorem Gl.lit {α : Type} {f : α → Value} {e : TypeId} {w : World} {cs : Array Value} (zs : List α) {n : Nat} (hn : zs.length = n) (h : cs.toList = zs.map f) (hl : n ≤ 4294967296) :
    Gl f (w.alloc (.cells cs e)) (.slice (some ⟨w.heap.size, 0, none⟩) n n) zs := by
  have hs : cs.size = n * 1 := by
    have := congrArg List.length h
    simp at this
    omega
  have ho := World.ownsRow_lit (base := 0) (size := 1) (e := e) w cs n (Nat.zero_le _) (by unfold maxLen; omega) hs
  rw [h] at ho
  exact Gl.owned ho

theorem card_b (id : ByteArray) (key : Int) (s : ByteArray) (w : World) (I : ByteArray) (K : Int) (m : List ByteArray) (n : Int) (hc : T.cardR id key s = ((I, K, m), n)) :
    Calls Try.prog 18 #[.string id, .int .i64 key, .string s] w fun e w' => ∃ v, e = .returned (.tuple #[.agg #[.string I, .int .i64 K, v], .int .i64 n]) ∧ Gl .string w' v m ∧ Below w.heap.size w w' :=
  card_any id key s w _ hc
theorem rcard_b (id : ByteArray) (key : Int) (s : ByteArray) (w : World) (I : ByteArray) (K : Int) (m : List ByteArray) (n : Int) (hc : T.cardR id key s = ((I, K, m), n)) :
    Calls Try.prog 19 #[.string id, .int .i64 key, .string s] w fun e w' => ∃ v, e = .returned (.tuple #[.agg #[.string I, .int .i64 K, v], .int .i64 n]) ∧ Gl .string w' v m ∧ Below w.heap.size w w' :=
  rcard_any id key s w _ hc

theorem ex_words : T.wordsR ⟨#[65, 45, 98, 99, 44, 32, 49]⟩ = ([⟨#[97]⟩, ⟨#[98, 99]⟩, ⟨#[49]⟩], 0) := by kernel_rfl
theorem ex_card : T.cardR ⟨#[120]⟩ 7 ⟨#[66]⟩ = ((⟨#[120]⟩, 7, [⟨#[98]⟩]), 0) := by kernel_rfl
theorem ex_term : T.termR ⟨#[98, 99]⟩ (T.wordsR ⟨#[98, 99]⟩) = true := by kernel_rfl
theorem ex_noterm : T.termR ⟨#[66, 99]⟩ (T.wordsR ⟨#[66, 99]⟩) = false := by kernel_rfl
theorem ex_valid : T.valid (T.bs ⟨#[97]⟩) = true := by kernel_rfl
theorem ex_novalid : T.valid (T.bs ⟨#[255]⟩) = false := by kernel_rfl


theorem ex_three (w : World) : Gl Value.string (w.alloc (.cells #[.string ⟨#[97]⟩, .string ⟨#[98, 99]⟩, .string ⟨#[49]⟩] 9)) (.slice (some ⟨w.heap.size, 0, none⟩) 3 3) [⟨#[97]⟩, ⟨#[98, 99]⟩, ⟨#[49]⟩] := Gl.lit (f := Value.string) [⟨#[97]⟩, ⟨#[98, 99]⟩, ⟨#[49]⟩] rfl rfl (by omega)
theorem ex_one (w : World) : Gl Value.string (w.alloc (.cells #[.string ⟨#[98]⟩] 9)) (.slice (some ⟨w.heap.size, 0, none⟩) 1 1) [⟨#[98]⟩] := Gl.lit (f := Value.string) [⟨#[98]⟩] rfl rfl (by omega)
end Go.Proofs.Ytpmbgbahoinelaa
