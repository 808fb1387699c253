/-
  Texts put together: Ex8.
-/
import Derived.Test.YtnahjaloodeicaaGreatM24
import Derived.Test.YtnahjaloodeicaaGreatM16
/-
  What Build tells of cards that make a segment; the chapter's example; literals. No function of the program is named here.
-/
namespace Go.Proofs.YtnahjaloodeicaaGreat
set_option maxRecDepth 100000
open Go.RowKit

theorem build_ok {L : List Cd} {so : Bool} {r : Sg × Bool × Int} (hr : S.build L so = r) (h0 : r.2.2 = 0) :
    ∃ LL, (LL = if so = true then S.srt L else L) ∧ Valid r.1 LL so ∧ r.2.1 = so ∧ S.Unlike L ∧ LL.Perm L ∧ L.length ≤ 64 ∧ (∀ c ∈ L, S.fits c = true) := by
  unfold S.build at hr
  split at hr
  · subst hr; simp at h0
  · rename_i h1
    split at hr
    · subst hr; simp at h0
    · rename_i h2
      split at hr
      · subst hr; simp at h0
      · rename_i h3
        subst hr
        have h1 : S.mayAll L = true := by cases h : S.mayAll L <;> simp_all
        have h3 : D.may (S.words L) = true := by cases h : D.may (S.words L) <;> simp_all
        unfold S.mayAll at h1
        rw [Bool.and_eq_true, List.all_eq_true, decide_eq_true_eq, List.nodup_iff_pairwise_ne, List.pairwise_map] at h1
        obtain ⟨hf, hu⟩ := h1
        have hp : (if so = true then S.srt L else L).Perm L := by
          split
          · exact S.srt_perm L
          · exact .refl _
        refine ⟨_, rfl, ⟨rfl, ⟨fun c hc => hf c (hp.subset hc), S.Unlike.perm hu hp.symm, by rw [hp.length_eq]; omega, ?_, fun hs => ?_⟩⟩, rfl, hu, hp, by omega, hf⟩
        · rw [S.words_perm hp]
          exact D.may_len h3
        · rw [if_pos hs]
          exact S.srt_up hu

/-! ### Literals -/

theorem Gl.lit {α : Type} {f : α → Value} {e : TypeId} {w : World} {cs : Array Value} (zs : List α) {n g : Nat} (hn : zs.length = n) (h : cs.toList = zs.map f) (hl : n ≤ 4294967296) (hg : g = w.heap.size) :
    Gl f (w.alloc (.cells cs e)) (.slice (some ⟨g, 0, none⟩) n n) zs := by
  subst hn hg
  refine ⟨_, _, rfl, Nat.le_refl _, by unfold maxLen; omega, (fun h => by cases h), fun x hx i y hi => ?_⟩
  obtain rfl := Option.some.inj hx
  rw [Addr.add_lit, Nat.zero_add]
  refine box_cell (heap_alloc_new w _) ?_
  rw [← Array.getElem?_toList, h, List.getElem?_map, hi]
  rfl

theorem Kl.lit {α : Type} {f : α → List Value} {k : Nat} {e : TypeId} {w : World} {cs : Array Value} (hk : ∀ y, (f y).length = k) (zs : List α) {n g : Nat} (hn : zs.length = n) (h : cs.toList = zs.flatMap f) (hl : n ≤ 4294967296) (hg : g = w.heap.size) :
    Kl f k (w.alloc (.cells cs e)) (.slice (some ⟨g, 0, none⟩) n n) zs := by
  subst hn hg
  refine ⟨_, _, rfl, Nat.le_refl _, by unfold maxLen; omega, (fun h => by cases h), fun x hx i y hi j u hu => ?_⟩
  obtain rfl := Option.some.inj hx
  rw [Addr.add_lit, Nat.zero_add]
  refine box_cell (heap_alloc_new w _) ?_
  have hj : j < k := by have := (List.getElem?_eq_some_iff.1 hu).1; rw [hk] at this; exact this
  rw [← Array.getElem?_toList, h, flat_at hk hi j hj]
  exact hu

def encPp (p : Pt × Pts) : List Value := [.int .i64 p.1.d, sv p.2]
theorem encPp_len (p : Pt × Pts) : (encPp p).length = 2 := rfl
theorem Pl.lits {w : World} {cs : Array Value} (ps : List (Pt × Pts)) {L : List Pt} (hL : ps.map (·.1) = L) (h : cs.toList = ps.flatMap encPp) (hS : ∀ p ∈ ps, Sl .i64 w (sv p.2) p.1.a) {n g : Nat} (hn : ps.length = n) (hl : n ≤ 4294967296) (hg : g = w.heap.size) :
    Pl (w.alloc (.cells cs 58)) (.slice (some ⟨g, 0, none⟩) n n) L := by
  obtain ⟨a, cap, h1, h2, h3, h4, h5⟩ := Kl.lit (e := 58) (w := w) encPp_len ps hn h hl hg
  simp only [Value.slice.injEq] at h1
  obtain ⟨rfl, h1, rfl⟩ := h1
  subst hL
  refine ⟨_, n, by rw [List.length_map, hn], by rw [List.length_map]; omega, h3, h4, fun x hx i p hi => ?_⟩
  rw [List.getElem?_map] at hi
  obtain ⟨q, hq, rfl⟩ := Option.map_eq_some_iff.1 hi
  exact ⟨_, h5 x hx i q hq 0 _ rfl, h5 x hx i q hq 1 _ rfl, (hS q (List.mem_of_getElem? hq)).below (below_alloc _ _)⟩

/-! ### The example -/

def xC : Cd := ⟨⟨#[120]⟩, 2, [⟨#[97]⟩, ⟨#[98]⟩, ⟨#[97]⟩]⟩
def yC : Cd := ⟨⟨#[121]⟩, 1, [⟨#[98]⟩]⟩
def exC : List Cd := [xC, yC]
def exD : List Cd := [yC, xC]
theorem ex_b1 : S.build exC false = (S.seg exC, false, 0) := by kernel_rfl
theorem ex_b2 : S.build exC true = (S.seg exD, true, 0) := by kernel_rfl
theorem ex_srt : S.srt exC = exD := by kernel_rfl
theorem ex_v1 : Valid (S.seg exC) exC false := by
  obtain ⟨LL, h1, h2, -⟩ := build_ok ex_b1 rfl
  rw [if_neg (by decide)] at h1
  subst h1
  exact h2
theorem ex_v2 : Valid (S.seg exD) exD true := by
  obtain ⟨LL, h1, h2, -⟩ := build_ok ex_b2 rfl
  rw [if_pos rfl, ex_srt] at h1
  subst h1
  exact h2
theorem ex_pa : (S.posts exC ⟨#[97]⟩).map S.pt = [⟨0, [0, 2]⟩] := by kernel_rfl
theorem ex_pb : (S.posts exC ⟨#[98]⟩).map S.pt = [⟨0, [1]⟩, ⟨1, [0]⟩] := by kernel_rfl
theorem ex_ids : (S.seg exD).ids = [⟨#[121]⟩, ⟨#[120]⟩] := rfl
theorem ex_bef : S.before yC xC = true := by kernel_rfl

def litW (w : World) : World := ((w.alloc (.cells #[.string ⟨#[97]⟩, .string ⟨#[98]⟩, .string ⟨#[97]⟩] 9)).alloc (.cells #[.string ⟨#[98]⟩] 9)).alloc
  (.cells #[.string ⟨#[120]⟩, .int .i64 2, .slice (some ⟨w.heap.size, 0, none⟩) 3 3, .string ⟨#[121]⟩, .int .i64 1, .slice (some ⟨w.heap.size + 1, 0, none⟩) 1 1] 40)
theorem lit_below (w : World) : Below w.heap.size w (litW w) := below_all (below_all (below_alloc _ _) _) _
theorem lit_cs (w : World) : Cs (litW w) (.slice (some ⟨w.heap.size + 2, 0, none⟩) 2 2) exC := by
  refine ⟨[(xC, (some ⟨w.heap.size, 0, none⟩, 3, 3)), (yC, (some ⟨w.heap.size + 1, 0, none⟩, 1, 1))], Kl.lit encC_len _ rfl rfl (by decide) (by simp), rfl, fun p hp => ?_⟩
  simp only [List.mem_cons, List.not_mem_nil, or_false] at hp
  rcases hp with rfl | rfl
  · have h : Gl .string (w.alloc (.cells #[.string ⟨#[97]⟩, .string ⟨#[98]⟩, .string ⟨#[97]⟩] 9)) (sv (some ⟨w.heap.size, 0, none⟩, 3, 3)) xC.w := Gl.lit (n := 3) xC.w rfl rfl (by decide) rfl
    exact h.below (below_all (below_alloc _ _) _)
  · have h : Gl .string ((w.alloc (.cells #[.string ⟨#[97]⟩, .string ⟨#[98]⟩, .string ⟨#[97]⟩] 9)).alloc (.cells #[.string ⟨#[98]⟩] 9)) (sv (some ⟨w.heap.size + 1, 0, none⟩, 1, 1)) yC.w := Gl.lit (n := 1) yC.w rfl rfl (by decide) (by simp)
    exact h.below (below_alloc _ _)
theorem lit_box (w : World) : (litW w).heap[w.heap.size + 2]? = some (.cells #[.string ⟨#[120]⟩, .int .i64 2, .slice (some ⟨w.heap.size, 0, none⟩) 3 3, .string ⟨#[121]⟩, .int .i64 1, .slice (some ⟨w.heap.size + 1, 0, none⟩) 1 1] 40 (0, 0)) := by
  have h := heap_alloc_new ((w.alloc (.cells #[.string ⟨#[97]⟩, .string ⟨#[98]⟩, .string ⟨#[97]⟩] 9)).alloc (.cells #[.string ⟨#[98]⟩] 9)) (.cells #[.string ⟨#[120]⟩, .int .i64 2, .slice (some ⟨w.heap.size, 0, none⟩) 3 3, .string ⟨#[121]⟩, .int .i64 1, .slice (some ⟨w.heap.size + 1, 0, none⟩) 1 1] 40)
  have e : ((w.alloc (.cells #[.string ⟨#[97]⟩, .string ⟨#[98]⟩, .string ⟨#[97]⟩] 9)).alloc (.cells #[.string ⟨#[98]⟩] 9)).heap.size = w.heap.size + 2 := by simp
  rw [e] at h
  exact h
end Go.Proofs.YtnahjaloodeicaaGreat
