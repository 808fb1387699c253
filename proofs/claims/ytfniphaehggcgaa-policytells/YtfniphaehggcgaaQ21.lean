/-
  Texts put together: PlainU12, PlainE12, Ex12, After12, Until12, Awake12.
-/
import Derived.Test.YtfniphaehggcgaaQ20
import Derived.Test.YtfniphaehggcgaaQ19
import Derived.Deep.RegionHeld3
import Derived.Deep.CutRange
import Derived.Test.YtfniphaehggcgaaQ17
/-
  Proposals are right, and policies end, in plain words. No program is named here.
-/
namespace Go.Proofs.Ytfniphaehggcgaa
set_option maxRecDepth 100000
open Go.RowKit

namespace Z
/-! ### What proposals are of -/

/-- Groups of sizes that are there, and idle, each once; of two at least, with room together. -/
structure Grp (L : List Sz) (G : List (List Sz)) : Prop where
  mem : ∀ s ∈ G.flatten, s ∈ L ∧ s.busy = false
  nodup : (gens G.flatten).Nodup
  two : ∀ g ∈ G, 2 ≤ g.length
  room : ∀ g ∈ G, lives g ≤ 64

theorem gens_flat (G : List (List Sz)) : (G.map gens).flatten = gens G.flatten := by
  unfold gens
  rw [List.map_flatten]
theorem chunks_sub {per : Nat} {most : Int} : ∀ (n : Nat) {l : List Sz}, l.length ≤ n → (chunks per most l).flatten.Sublist l
  | 0, l, h => by
    rw [chunks]
    split
    · omega
    · simp
  | n + 1, l, h => by
    rw [chunks]
    split
    · rename_i h1
      have ih := chunks_sub (per := per) (most := most) n (l := l.drop per) (by rw [List.length_drop]; omega)
      rw [List.flatten_append]
      have e : l = l.take per ++ l.drop per := (List.take_append_drop per l).symm
      conv => rhs; rw [e]
      refine List.Sublist.append ?_ ih
      split
      · simp
      · simp
    · simp
theorem runs_sub {per : Nat} {most : Int} : ∀ (n : Nat) {l : List Sz}, l.length ≤ n → (runs per most l).flatten.Sublist l
  | 0, l, h => by
    rw [runs]
    split
    · omega
    · simp
  | n + 1, l, h => by
    rw [runs]
    split
    · rename_i h1
      split
      · have ih := runs_sub (per := per) (most := most) n (l := l.drop per) (by rw [List.length_drop]; omega)
        rw [List.flatten_cons]
        have e : l = l.take per ++ l.drop per := (List.take_append_drop per l).symm
        conv => rhs; rw [e]
        exact List.Sublist.append (List.Sublist.refl _) ih
      · exact (runs_sub (per := per) (most := most) n (l := l.drop 1) (by rw [List.length_drop]; omega)).trans (List.drop_sublist 1 l)
    · simp
theorem gens_sub {l m : List Sz} (h : l.Sublist m) : (gens l).Sublist (gens m) := h.map _
theorem same_gen {L : List Sz} (h : (gens L).Nodup) : ∀ {s t : Sz}, s ∈ L → t ∈ L → s.gen = t.gen → s = t := by
  induction L with
  | nil => intro s t hs; cases hs
  | cons x r ih =>
    intro s t hs ht e
    have hx : x.gen ∉ gens r ∧ (gens r).Nodup := List.nodup_cons.1 h
    rcases List.mem_cons.1 hs with h1 | h1 <;> rcases List.mem_cons.1 ht with h2 | h2
    · rw [h1, h2]
    · rw [h1] at e
      exact absurd (List.mem_map.2 ⟨t, h2, e.symm⟩) hx.1
    · rw [h2] at e
      exact absurd (List.mem_map.2 ⟨s, h1, e⟩) hx.1
    · exact ih hx.2 h1 h2 e
theorem tierTo_grp {per : Nat} {most : Int} {L : List Sz} (h : (gens L).Nodup) (hm : most ≤ 64) : ∀ k, Grp L (tierTo per most L k) ∧ ∀ s ∈ (tierTo per most L k).flatten, lv per s < k
  | 0 => ⟨⟨by simp [tierTo], by simp [tierTo, gens], by simp [tierTo], by simp [tierTo]⟩, by simp [tierTo]⟩
  | k + 1 => by
    obtain ⟨h1, h2⟩ := tierTo_grp h hm (per := per) k
    have hs := chunks_sub (per := per) (most := most) _ (l := L.filter (ofLv per k)) (Nat.le_refl _)
    have hin : ∀ s ∈ (chunks per most (L.filter (ofLv per k))).flatten, s ∈ L ∧ s.busy = false ∧ lv per s = k := fun s hs' => by
      have := List.mem_filter.1 (hs.subset hs')
      refine ⟨this.1, ?_⟩
      have h9 := this.2
      simp only [ofLv, Bool.and_eq_true, Bool.not_eq_true', decide_eq_true_eq] at h9
      exact h9
    rw [tierTo_succ]
    refine ⟨⟨fun s hs' => ?_, ?_, fun g hg => ?_, fun g hg => ?_⟩, fun s hs' => ?_⟩
    · rw [List.flatten_append] at hs'
      rcases List.mem_append.1 hs' with hs' | hs'
      · exact h1.mem s hs'
      · exact ⟨(hin s hs').1, (hin s hs').2.1⟩
    · rw [List.flatten_append]
      unfold gens
      rw [List.map_append, List.nodup_append]
      refine ⟨h1.nodup, (h.sublist ((gens_sub hs).trans (gens_sub List.filter_sublist))), fun a ha b hb e => ?_⟩
      obtain ⟨s, k1, k2⟩ := List.mem_map.1 ha
      obtain ⟨t, k3, k4⟩ := List.mem_map.1 hb
      have := same_gen h (h1.mem s k1).1 (hin t k3).1 (by rw [k2, k4, e])
      subst this
      have l1 := h2 s k1
      have l2 := (hin s k3).2.2
      omega
    · rcases List.mem_append.1 hg with hg | hg
      · exact h1.two g hg
      · have := chunks_mem _ (Nat.le_refl _) hg
        omega
    · rcases List.mem_append.1 hg with hg | hg
      · exact h1.room g hg
      · have := chunks_mem _ (Nat.le_refl _) hg
        omega
    · rw [List.flatten_append] at hs'
      rcases List.mem_append.1 hs' with hs' | hs'
      · have := h2 s hs'; omega
      · have := (hin s hs').2.2; omega
theorem tier_grp {per : Nat} {most : Int} {L : List Sz} (h : (gens L).Nodup) (hm : most ≤ 64) : Grp L (tierG per most L) := (tierTo_grp h hm _).1
theorem alk_idle {per : Nat} {g : List Sz} (h : alk per g = true) : ∀ s ∈ g, s.busy = false := by
  cases g with
  | nil => intro s hs; cases hs
  | cons x r =>
    rw [alk, List.all_eq_true] at h
    intro s hs
    have := h s hs
    simp only [Bool.and_eq_true, Bool.not_eq_true'] at this
    exact this.1
theorem runs_grp {per : Nat} {most : Int} {L : List Sz} (h : (gens L).Nodup) (hm : most ≤ 64) : Grp L (runs per most L) := by
  have hs := runs_sub (per := per) (most := most) _ (l := L) (Nat.le_refl _)
  refine ⟨fun s hs' => ⟨hs.subset hs', ?_⟩, h.sublist (gens_sub hs), fun g hg => ?_, fun g hg => ?_⟩
  · obtain ⟨g, h1, h2⟩ := List.mem_flatten.1 hs'
    exact alk_idle (runs_mem _ (Nat.le_refl _) h1).2.2.2.1 s h2
  · have := runs_mem _ (Nat.le_refl _) hg
    omega
  · have := runs_mem _ (Nat.le_refl _) hg
    omega
theorem filter_lives {L : List Sz} (h : ∀ s ∈ L, Ok s) (so : Sz → Bool) : lives (L.filter so) ≤ lives L := by
  have h1 := lives_split so L
  have h2 := (lives_le (l := L.filter fun s => !so s) (fun s hs => h s (List.mem_filter.1 hs).1)).1
  omega
theorem force_grp {n : Int} {L : List Sz} (h : (gens L).Nodup) (hO : ∀ s ∈ L, Ok s) (hn : 1 ≤ n) (hl : lives L ≤ 64) : Grp L (forceG n L) := by
  unfold forceG
  split
  · exact ⟨by simp, by simp [gens], by simp, by simp⟩
  · rename_i h1
    have hs : ((L.filter idle).take ((L.filter idle).length - n.toNat + 1)).Sublist L := (List.take_sublist _ _).trans List.filter_sublist
    refine ⟨fun s hs' => ?_, ?_, fun g hg => ?_, fun g hg => ?_⟩
    · simp only [List.flatten_cons, List.flatten_nil, List.append_nil] at hs'
      have := List.mem_filter.1 (List.mem_of_mem_take hs')
      exact ⟨this.1, by have h9 := this.2; simpa [idle] using h9⟩
    · simp only [List.flatten_cons, List.flatten_nil, List.append_nil]
      exact h.sublist (gens_sub hs)
    · simp only [List.mem_singleton] at hg
      subst hg
      rw [List.length_take]
      omega
    · simp only [List.mem_singleton] at hg
      subst hg
      have e := lives_app ((L.filter idle).take ((L.filter idle).length - n.toNat + 1)) ((L.filter idle).drop ((L.filter idle).length - n.toNat + 1))
      rw [List.take_append_drop] at e
      have h2 := (lives_le (l := (L.filter idle).drop ((L.filter idle).length - n.toNat + 1)) (fun s hs => hO s (List.mem_filter.1 (List.mem_of_mem_drop hs)).1)).1
      have h3 := filter_lives hO idle
      omega

/-! ### Proposals -/

/-- Those by themselves. -/
def alone (half : Bool) (L : List Sz) (G : List (List Sz)) : List Sz := (L.filter idle).filter (one half (G.map gens).flatten)
theorem alone_mem {half : Bool} {L : List Sz} {G : List (List Sz)} {s : Sz} : s ∈ alone half L G ↔ s ∈ L ∧ s.busy = false ∧ crit half s = true ∧ s.gen ∉ gens G.flatten := by
  unfold alone
  rw [List.mem_filter, List.mem_filter, ← gens_flat]
  simp only [idle, one, Bool.not_eq_true', Bool.and_eq_true, decide_eq_false_iff_not]
  constructor
  · rintro ⟨⟨h1, h2⟩, h3, h4⟩; exact ⟨h1, h2, h3, h4⟩
  · rintro ⟨h1, h2, h3, h4⟩; exact ⟨⟨h1, h2⟩, h3, h4⟩
theorem prop_eq (half : Bool) (L : List Sz) (G : List (List Sz)) : prop half L G = G.map gens ++ (alone half L G).map fun s => [s.gen] := rfl
theorem single_flat (l : List Sz) : (l.map fun s => [s.gen]).flatten = gens l := by
  induction l with
  | nil => rfl
  | cons s r ih => simp only [List.map_cons, List.flatten_cons, ih, gens, List.singleton_append]
theorem prop_flat (half : Bool) (L : List Sz) (G : List (List Sz)) : (prop half L G).flatten = gens (G.flatten ++ alone half L G) := by
  rw [prop_eq, List.flatten_append, gens_flat, single_flat]
  unfold gens
  rw [List.map_append]
/-- What proposals are of is there, and idle, and each is once. -/
theorem prop_of {half : Bool} {L : List Sz} {G : List (List Sz)} (h : (gens L).Nodup) (hG : Grp L G) : (prop half L G).flatten.Nodup ∧ (∀ s ∈ G.flatten ++ alone half L G, s ∈ L ∧ s.busy = false) ∧ ∀ f ∈ prop half L G, f ≠ [] := by
  refine ⟨?_, fun s hs => ?_, fun f hf => ?_⟩
  · rw [prop_flat]
    unfold gens
    rw [List.map_append, List.nodup_append]
    refine ⟨hG.nodup, h.sublist (gens_sub (List.filter_sublist.trans List.filter_sublist)), fun a ha b hb e => ?_⟩
    obtain ⟨t, k3, k4⟩ := List.mem_map.1 hb
    exact (alone_mem.1 k3).2.2.2 (by rw [k4, ← e]; exact ha)
  · rcases List.mem_append.1 hs with hs | hs
    · exact hG.mem s hs
    · have := alone_mem.1 hs
      exact ⟨this.1, this.2.1⟩
  · rw [prop_eq] at hf
    rcases List.mem_append.1 hf with hf | hf
    · obtain ⟨g, h1, rfl⟩ := List.mem_map.1 hf
      have := hG.two g h1
      intro e
      have := congrArg List.length e
      simp [gens] at this
      subst this
      simp at *
    · obtain ⟨s, -, rfl⟩ := List.mem_map.1 hf
      simp
theorem prop_eats {half : Bool} {L : List Sz} {G : List (List Sz)} (h : (gens L).Nodup) (hG : Grp L G) : eats (gens L) (prop half L G) = true := by
  obtain ⟨h1, h2, h3⟩ := prop_of (half := half) h hG
  refine (eats_iff _ _ h).2 ⟨h3, h1, fun x hx => ?_⟩
  rw [prop_flat] at hx
  obtain ⟨s, k1, rfl⟩ := List.mem_map.1 hx
  exact List.mem_map.2 ⟨s, (h2 s k1).1, rfl⟩

/-! ### What is done -/

theorem filter_step {a : List Sz} {f f0 : List Int} {g : Int} (hd : ∀ x ∈ f, x ∉ f0) (hg : g ∉ f) : (step a f0 g).filter (isIn f) = a.filter (isIn f) := by
  have h1 : (a.filter fun s => !isIn f0 s).filter (isIn f) = a.filter (isIn f) := by
    rw [List.filter_filter]
    refine List.filter_congr fun s _ => ?_
    simp only [isIn]
    by_cases h : s.gen ∈ f
    · simp [h, hd _ h]
    · simp [h]
  rw [step, repl]
  split
  · exact h1
  · rw [List.filter_append, List.filter_append]
    have h2 : [made a f0 g].filter (isIn f) = [] := by simp [isIn, made, hg]
    rw [h2, List.append_nil, ← List.filter_append, List.take_append_drop, h1]
theorem docs_step {a : List Sz} {f f0 : List Int} {g : Int} (hd : ∀ x ∈ f, x ∉ f0) (hg : g ∉ f) : docs (step a f0 g) f = docs a f := by unfold docs; rw [filter_step hd hg]

/-- What comes of proposals that are done. -/
structure Came (a : List Sz) (p : List (List Int)) (g : Int) (x : List Sz) : Prop where
  go : Go x [] (g + p.length)
  lives : lives x = lives a
  len : x.length + p.flatten.length ≤ a.length + p.length
  old : ∀ s ∈ a, s.gen ∉ p.flatten → s ∈ x
  mem : ∀ s ∈ x, (s ∈ a ∧ s.gen ∉ p.flatten) ∨ (s.dead = 0 ∧ s.busy = false ∧ g ≤ s.gen)
theorem going_came : ∀ {p : List (List Int)} {a : List Sz} {g : Int} {x : List Sz}, Go a p g → going a p g = some x → Came a p g x
  | [], a, g, x, h, he => by
    simp only [going, Option.some.injEq] at he
    subst he
    exact ⟨by simpa using h, rfl, by simp, fun s hs _ => hs, fun s hs => .inl ⟨hs, by simp⟩⟩
  | f :: p, a, g, x, h, he => by
    rw [going] at he
    split at he
    · cases he
    · rename_i hd
      have hn := h.next (by omega)
      have ih := going_came hn he
      have hfl := h.flat
      rw [List.flatten_cons, List.nodup_append] at hfl
      have hsub : ∀ x ∈ f, x ∈ gens a := fun x hx => h.sub x (by rw [List.flatten_cons]; exact List.mem_append_left _ hx)
      have hlen := step_len (g := g) hfl.1 hsub
      refine ⟨?_, ih.lives.trans (lives_step a f g), ?_, fun s hs hns => ?_, fun s hs => ?_⟩
      · have := ih.go
        rw [show g + 1 + (p.length : Int) = g + ((f :: p).length : Int) by simp; omega] at this
        exact this
      · have := ih.len
        simp only [List.flatten_cons, List.length_append, List.length_cons]
        omega
      · rw [List.flatten_cons, List.mem_append, not_or] at hns
        refine ih.old s (mem_repl.2 (.inl ⟨hs, by simp [isIn, hns.1]⟩)) hns.2
      · rcases ih.mem s hs with ⟨k1, k2⟩ | ⟨k1, k2, k3⟩
        · rcases mem_repl.1 k1 with ⟨k3, k4⟩ | ⟨-, rfl⟩
          · left
            rw [List.flatten_cons, List.mem_append, not_or]
            exact ⟨k3, by simpa [isIn] using k4, k2⟩
          · right
            exact ⟨rfl, rfl, Int.le_refl _⟩
        · right
          exact ⟨k1, k2, by omega⟩
theorem going_some : ∀ {p : List (List Int)} {a : List Sz} {g : Int}, Go a p g → (∀ f ∈ p, docs a f ≤ 64) → ∃ x, going a p g = some x
  | [], a, g, h, hd => ⟨a, rfl⟩
  | f :: p, a, g, h, hd => by
    have h1 := hd f (by simp)
    have hn := h.next h1
    have hfl := h.flat
    rw [List.flatten_cons, List.nodup_append] at hfl
    rw [going, if_neg (by omega)]
    refine going_some hn fun q hq => ?_
    rw [docs_step (fun x hx hxf => hfl.2.2 x hxf x (List.mem_flatten.2 ⟨q, hq, hx⟩) rfl) (fun hg => ?_)]
    · exact hd q (by simp [hq])
    · obtain ⟨s, k1, k2⟩ := List.mem_map.1 (h.sub g (by rw [List.flatten_cons]; exact List.mem_append_right _ (List.mem_flatten.2 ⟨q, hq, hg⟩)))
      have := h.low s k1
      omega
theorem nodup_gens : ∀ {L : List Sz}, (gens L).Nodup → L.Nodup
  | [], _ => List.nodup_nil
  | s :: r, h => by
    have h1 : s.gen ∉ gens r ∧ (gens r).Nodup := List.nodup_cons.1 h
    exact List.nodup_cons.2 ⟨fun hm => h1.1 (List.mem_map.2 ⟨s, hm, rfl⟩), nodup_gens h1.2⟩
/-- What lives of a group. -/
theorem docs_grp {L g : List Sz} (h : (gens L).Nodup) (hg : (gens g).Nodup) (hs : ∀ s ∈ g, s ∈ L) : docs L (gens g) = lives g := by
  have hL : L.Nodup := nodup_gens h
  have hgn : g.Nodup := nodup_gens hg
  refine lives_perm ((List.perm_ext_iff_of_nodup (hL.sublist List.filter_sublist) hgn).2 fun s => ?_)
  rw [List.mem_filter]
  simp only [isIn, decide_eq_true_eq]
  constructor
  · rintro ⟨h1, h2⟩
    obtain ⟨t, h3, h4⟩ := List.mem_map.1 h2
    have := same_gen h (hs t h3) h1 h4
    rwa [← this]
  · exact fun h1 => ⟨hs s h1, List.mem_map.2 ⟨s, h1, rfl⟩⟩
theorem prop_room {half : Bool} {L : List Sz} {G : List (List Sz)} (h : Ready L) (hG : Grp L G) : ∀ f ∈ prop half L G, docs L f ≤ 64 := by
  intro f hf
  rw [prop_eq] at hf
  rcases List.mem_append.1 hf with hf | hf
  · obtain ⟨g, h1, rfl⟩ := List.mem_map.1 hf
    have hsg : g.Sublist G.flatten := List.sublist_flatten_of_mem h1
    rw [docs_grp h.2.2 (hG.nodup.sublist (gens_sub hsg)) (fun s hs => (hG.mem s (hsg.subset hs)).1)]
    exact hG.room g h1
  · obtain ⟨s, h1, rfl⟩ := List.mem_map.1 hf
    have hs := (alone_mem.1 h1).1
    have := docs_grp (L := L) (g := [s]) h.2.2 (by simp [gens]) (by simpa using hs)
    have e : gens [s] = [s.gen] := rfl
    rw [e] at this
    rw [this]
    have := (h.2.1 s hs).live
    simp only [lives]
    omega
/-- Proposals of a policy are done. -/
theorem prop_came {half : Bool} {L : List Sz} {G : List (List Sz)} (h : Ready L) (hG : Grp L G) (ht : great L + (prop half L G).length ≤ 34359738367) : ∃ x, after true L (prop half L G) = x ∧ going L (prop half L G) (great L + 1) = some x ∧ Came L (prop half L G) (great L + 1) x := by
  have he := prop_eats (half := half) h.2.2 hG
  have hgo := Go.start h he ht
  obtain ⟨x, hx⟩ := going_some hgo (prop_room h hG)
  refine ⟨x, ?_, hx, going_came hgo hx⟩
  rw [after, if_pos (by simp [he, ht]), hx]
  rfl
theorem prop_len {half : Bool} {L : List Sz} {G : List (List Sz)} (h : Ready L) (hG : Grp L G) : (prop half L G).length ≤ 16 := by
  have := eats_len h.2.2 (prop_eats (half := half) h.2.2 hG)
  have e : (gens L).length = L.length := by simp [gens]
  have := h.1
  omega
end Z
end Go.Proofs.Ytfniphaehggcgaa

/-
  Policies end, in plain words: no more times than there are segments. No program is named here.
-/
namespace Go.Proofs.Ytfniphaehggcgaa
set_option maxRecDepth 100000
open Go.RowKit

namespace Z
/-- What the levels hang on. -/
def prof (s : Sz) : Bool × Int := (s.busy, live s)

theorem lives_prof : ∀ {l m : List Sz}, l.map prof = m.map prof → lives l = lives m
  | [], [], _ => rfl
  | [], y :: m, h => by simp at h
  | x :: l, [], h => by simp at h
  | x :: l, y :: m, h => by
    simp only [List.map_cons, List.cons.injEq] at h
    have h1 : live x = live y := congrArg Prod.snd h.1
    simp only [lives, h1, lives_prof h.2]
theorem len_prof {l m : List Sz} (h : l.map prof = m.map prof) : l.length = m.length := by simpa using congrArg List.length h
theorem take_prof {l m : List Sz} (h : l.map prof = m.map prof) (n : Nat) : (l.take n).map prof = (m.take n).map prof := by rw [List.map_take, List.map_take, h]
theorem drop_prof {l m : List Sz} (h : l.map prof = m.map prof) (n : Nat) : (l.drop n).map prof = (m.drop n).map prof := by rw [List.map_drop, List.map_drop, h]
theorem chunks_prof {per : Nat} {most : Int} : ∀ (n : Nat) {l m : List Sz}, l.length ≤ n → l.map prof = m.map prof → (chunks per most l).length = (chunks per most m).length
  | 0, l, m, hn, h => by
    have hl := len_prof h
    rw [chunks]
    conv => rhs; rw [chunks]
    split
    · omega
    · rw [dif_neg (by omega)]
  | n + 1, l, m, hn, h => by
    have hl := len_prof h
    rw [chunks]
    conv => rhs; rw [chunks]
    split
    · rename_i h1
      rw [dif_pos ⟨h1.1, by omega⟩, List.length_append, List.length_append, lives_prof (take_prof h per), chunks_prof n (by rw [List.length_drop]; omega) (drop_prof h per)]
      split <;> simp
    · rw [dif_neg (by omega)]
theorem alk_prof {per : Nat} {l m : List Sz} (h : l.map prof = m.map prof) : alk per l = alk per m := by
  have key : ∀ (x : Sz) (r : List Sz), alk per (x :: r) = ((x :: r).map prof).all fun q => !q.1 && decide (lev per q.2.toNat = lev per (prof x).2.toNat) := fun x r => by
    rw [alk, List.all_map]
    rfl
  cases l with
  | nil =>
    cases m with
    | nil => rfl
    | cons y m => simp at h
  | cons x l =>
    cases m with
    | nil => simp at h
    | cons y m =>
      rw [key, key, h]
      simp only [List.map_cons, List.cons.injEq] at h
      rw [h.1]
theorem runs_prof {per : Nat} {most : Int} : ∀ (n : Nat) {l m : List Sz}, l.length ≤ n → l.map prof = m.map prof → (runs per most l).length = (runs per most m).length
  | 0, l, m, hn, h => by
    have hl := len_prof h
    rw [runs]
    conv => rhs; rw [runs]
    split
    · omega
    · rw [dif_neg (by omega)]
  | n + 1, l, m, hn, h => by
    have hl := len_prof h
    rw [runs]
    conv => rhs; rw [runs]
    split
    · rename_i h1
      rw [dif_pos ⟨h1.1, by omega⟩, alk_prof (take_prof h per), lives_prof (take_prof h per)]
      split
      · rw [List.length_cons, List.length_cons, runs_prof n (by rw [List.length_drop]; omega) (drop_prof h per)]
      · rw [runs_prof n (by rw [List.length_drop]; omega) (drop_prof h 1)]
    · rw [dif_neg (by omega)]
theorem filter_prof {per k : Nat} (l : List Sz) : (l.filter (ofLv per k)).map prof = (l.map prof).filter fun q => !q.1 && decide (lev per q.2.toNat = k) := by
  rw [List.filter_map]
  rfl
theorem tierTo_prof {per : Nat} {most : Int} {l m : List Sz} (h : l.map prof = m.map prof) : ∀ k, (tierTo per most l k).length = (tierTo per most m k).length
  | 0 => rfl
  | k + 1 => by
    rw [tierTo_succ, tierTo_succ, List.length_append, List.length_append, tierTo_prof h k, chunks_prof (m := m.filter (ofLv per k)) _ (Nat.le_refl _) (by rw [filter_prof, filter_prof, h])]

/-- The groups of a policy. -/
def grps (lg : Bool) (per : Nat) (most : Int) (L : List Sz) : List (List Sz) := if lg = true then runs per most L else tierG per most L
/-- What a policy proposes. -/
def pr (lg : Bool) (per : Nat) (most : Int) (L : List Sz) : List (List Int) := prop true L (grps lg per most L)
theorem grps_grp {lg : Bool} {per : Nat} {most : Int} {L : List Sz} (h : (gens L).Nodup) (hm : most ≤ 64) : Grp L (grps lg per most L) := by
  unfold grps
  split
  · exact runs_grp h hm
  · exact tier_grp h hm
theorem grps_prof {lg : Bool} {per : Nat} {most : Int} {l m : List Sz} (h : l.map prof = m.map prof) : (grps lg per most l).length = (grps lg per most m).length := by
  unfold grps
  split
  · exact runs_prof _ (Nat.le_refl _) h
  · exact tierTo_prof h _

theorem prof_step {a : List Sz} {s : Sz} {g : Int} (hn : (gens a).Nodup) (hs : s ∈ a) (hb : s.busy = false) (hd : docs a [s.gen] ≠ 0) : (step a [s.gen] g).map prof = a.map prof := by
  have hdoc : docs a [s.gen] = live s := by
    have := docs_grp (L := a) (g := [s]) hn (by simp [gens]) (by simpa using hs)
    have e : gens [s] = [s.gen] := rfl
    rw [e] at this
    rw [this]
    simp [lives]
  obtain ⟨l1, l2, rfl⟩ := List.append_of_mem hs
  have hn' := hn
  unfold gens at hn
  rw [List.map_append, List.map_cons, List.nodup_append, List.nodup_cons] at hn
  obtain ⟨-, ⟨n2, -⟩, n3⟩ := hn
  have f1 : ∀ y ∈ l1, isIn [s.gen] y = false := fun y hy => by
    have := n3 y.gen (List.mem_map.2 ⟨y, hy, rfl⟩) s.gen (by simp)
    simp [isIn, this]
  have f2 : ∀ y ∈ l2, isIn [s.gen] y = false := fun y hy => by
    have : y.gen ≠ s.gen := fun e => n2 (List.mem_map.2 ⟨y, hy, e⟩)
    simp [isIn, this]
  have fs : isIn [s.gen] s = true := by simp [isIn]
  have hF : (l1 ++ s :: l2).filter (fun y => !isIn [s.gen] y) = l1 ++ l2 := by
    rw [List.filter_append, List.filter_cons]
    simp only [fs, Bool.not_true, Bool.false_eq_true, if_false]
    rw [List.filter_eq_self.2 (fun y hy => by simp [f1 y hy]), List.filter_eq_self.2 (fun y hy => by simp [f2 y hy])]
  have hk : (l1 ++ s :: l2).findIdx (isIn [s.gen]) = l1.length := by
    rw [List.findIdx_eq (by simp)]
    refine ⟨by simp [fs], fun j hj => ?_⟩
    have : (l1 ++ s :: l2)[j]'(by simp; omega) = l1[j] := List.getElem_append_left hj
    rw [this]
    exact f1 _ (List.getElem_mem hj)
  rw [step, repl, if_neg (by show ¬ (docs _ _ = 0); exact hd), hF, hk, List.take_left', List.drop_left']
  · have hm : prof (made (l1 ++ s :: l2) [s.gen] g) = prof s := by
      simp only [prof, made, live, hb]
      rw [hdoc, live]
      simp
    simp [hm]
  · rfl
  · rfl

/-- Those by themselves, done: there are fewer, or the levels are as they were. -/
theorem alone_came : ∀ {q a : List Sz} {g : Int} {x : List Sz}, Go a (q.map fun s => [s.gen]) g → (∀ s ∈ q, s ∈ a ∧ s.busy = false) → going a (q.map fun s => [s.gen]) g = some x → x.length < a.length ∨ x.map prof = a.map prof
  | [], a, g, x, h, hq, he => by
    simp only [List.map_nil, going, Option.some.injEq] at he
    subst he
    exact .inr rfl
  | s :: q, a, g, x, h, hq, he => by
    rw [List.map_cons] at h he
    rw [going] at he
    split at he
    · cases he
    · rename_i hd
      have hn := h.next (by omega)
      have hc := going_came hn he
      obtain ⟨hs, hb⟩ := hq s (by simp)
      have hfl := h.flat
      rw [List.flatten_cons, single_flat, List.nodup_append] at hfl
      by_cases h0 : docs a [s.gen] = 0
      · left
        have h1 := step_gone (g := g) (a := a) (f := [s.gen]) (by simp) (by intro x hx; simp only [List.mem_singleton] at hx; subst hx; exact List.mem_map.2 ⟨s, hs, rfl⟩) h0
        have h2 := hc.len
        rw [single_flat] at h2
        have h3 : (gens q).length = q.length := by simp [gens]
        simp only [List.length_map, List.length_singleton] at h1 h2
        omega
      · have hp := prof_step (g := g) h.nodup hs hb h0
        have hq' : ∀ t ∈ q, t ∈ step a [s.gen] g ∧ t.busy = false := fun t ht => by
          obtain ⟨k1, k2⟩ := hq t (by simp [ht])
          refine ⟨mem_repl.2 (.inl ⟨k1, ?_⟩), k2⟩
          have := hfl.2.2 s.gen (by simp) t.gen (List.mem_map.2 ⟨t, ht, rfl⟩)
          simp [isIn, Ne.symm this]
        rcases alone_came hn hq' he with h1 | h1
        · left
          have := len_prof hp
          omega
        · right
          rw [h1, hp]

theorem flat_two : ∀ {G : List (List Sz)}, (∀ g ∈ G, 2 ≤ g.length) → 2 * G.length ≤ G.flatten.length
  | [], _ => by simp
  | g :: G, h => by
    have h1 := flat_two (G := G) (fun x hx => h x (by simp [hx]))
    have h2 := h g (by simp)
    simp only [List.length_cons, List.flatten_cons, List.length_append]
    omega

/-- A time of a policy: there are fewer segments, or it was the last one. -/
theorem pr_time {lg : Bool} {per : Nat} {most : Int} {L x : List Sz} (h : Ready L) (hm : most ≤ 64) (hx : going L (pr lg per most L) (great L + 1) = some x) (hgo : Go L (pr lg per most L) (great L + 1)) : x.length < L.length ∨ (x.length ≤ L.length ∧ pr lg per most x = []) := by
  have hc := going_came hgo hx
  have hG := grps_grp (lg := lg) (per := per) h.2.2 hm
  have hlen := hc.len
  have e1 : (pr lg per most L).flatten.length = (grps lg per most L).flatten.length + (alone true L (grps lg per most L)).length := by
    rw [pr, prop_flat]; simp only [gens, List.length_map, List.length_append]
  have e2 : (pr lg per most L).length = (grps lg per most L).length + (alone true L (grps lg per most L)).length := by
    rw [pr, prop_eq]; simp
  have h2 := flat_two hG.two
  by_cases hg : grps lg per most L = []
  · have hp : pr lg per most L = (alone true L []).map fun s => [s.gen] := by rw [pr, hg, prop_eq]; rfl
    rw [hp] at hx hgo
    rcases alone_came hgo (fun s hs => by have := alone_mem.1 hs; exact ⟨this.1, this.2.1⟩) hx with h1 | h1
    · exact .inl h1
    · right
      refine ⟨by rw [len_prof h1]; exact Nat.le_refl _, ?_⟩
      have hgx : grps lg per most x = [] := List.eq_nil_of_length_eq_zero (by rw [grps_prof h1, hg]; rfl)
      rw [pr, hgx, prop_eq]
      have : alone true x [] = [] := List.eq_nil_iff_forall_not_mem.2 fun s hs => by
        obtain ⟨k1, k2, k3, -⟩ := alone_mem.1 hs
        rcases hc.mem s k1 with ⟨k4, k5⟩ | ⟨k4, -, -⟩
        · refine k5 ?_
          rw [hp, single_flat]
          exact List.mem_map.2 ⟨s, alone_mem.2 ⟨k4, k2, k3, by simp [gens]⟩, rfl⟩
        · have := (hc.go.ok s k1).live
          simp only [crit, if_true, decide_eq_true_eq] at k3
          omega
      rw [this]
      rfl
  · left
    have : 0 < (grps lg per most L).length := List.length_pos_iff.2 hg
    omega

/-! ### Again and again -/

def until_ (lg : Bool) (per : Nat) (most : Int) : Nat → List Sz → Nat → List Sz × Nat
  | 0, A, t => (A, t)
  | n + 1, A, t => if pr lg per most A = [] then (A, t) else
    if after true A (pr lg per most A) = [] ∧ 0 < lives A then (A, t) else until_ lg per most n (after true A (pr lg per most A)) (t + 1)
/-- How far a policy has come. -/
structure UI (lg : Bool) (per : Nat) (most : Int) (n0 : Nat) (V : Int) (A : List Sz) (t : Nat) : Prop where
  ready : Ready A
  lives : lives A = V
  len : A.length ≤ n0
  low : ∀ s ∈ A, s.gen ≤ 1073741824 + 16 * t
  left : t + A.length ≤ n0 ∨ (t ≤ n0 ∧ pr lg per most A = [])
theorem UI.le {lg : Bool} {per : Nat} {most : Int} {n0 : Nat} {V : Int} {A : List Sz} {t : Nat} (h : UI lg per most n0 V A t) : t ≤ n0 := by
  rcases h.left with h | h
  · omega
  · exact h.1
theorem UI.top {lg : Bool} {per : Nat} {most : Int} {n0 : Nat} {V : Int} {A : List Sz} {t : Nat} (h : UI lg per most n0 V A t) (hn : n0 ≤ 16) (hm : most ≤ 64) : great A + (pr lg per most A).length ≤ 34359738367 := by
  have h1 := zgreat_le (L := A) (m := 1073741824 + 16 * t) h.low (by omega)
  have h2 := prop_len (half := true) h.ready (grps_grp (lg := lg) (per := per) h.ready.2.2 hm)
  have h3 := h.le
  show great A + ((prop true A (grps lg per most A)).length : Int) ≤ _
  omega
theorem UI.step {lg : Bool} {per : Nat} {most : Int} {n0 : Nat} {V : Int} {A : List Sz} {t : Nat} (h : UI lg per most n0 V A t) (hn : n0 ≤ 16) (hm : most ≤ 64) (hp : pr lg per most A ≠ []) :
    UI lg per most n0 V (after true A (pr lg per most A)) (t + 1) ∧ ¬ (after true A (pr lg per most A) = [] ∧ 0 < Z.lives A) := by
  have hG := grps_grp (lg := lg) (per := per) h.ready.2.2 hm
  have ht := h.top hn hm
  obtain ⟨x, h1, h2, h3⟩ := prop_came (half := true) h.ready hG ht
  have h1' : after true A (pr lg per most A) = x := h1
  rw [h1']
  have he := prop_eats (half := true) h.ready.2.2 hG
  have hgo : Go A (pr lg per most A) (great A + 1) := Go.start h.ready he ht
  have hlt : t + A.length ≤ n0 := by
    rcases h.left with h | h
    · exact h
    · exact absurd h.2 hp
  have hA : 0 < A.length := by
    rcases Nat.eq_zero_or_pos A.length with h0 | h0
    · exfalso
      have hA0 : A = [] := List.eq_nil_of_length_eq_zero h0
      obtain ⟨f, hf⟩ := List.exists_mem_of_ne_nil _ hp
      have hne := hgo.ne f hf
      obtain ⟨y, hy⟩ := List.exists_mem_of_ne_nil f hne
      have := hgo.sub y (List.mem_flatten.2 ⟨f, hf, hy⟩)
      rw [hA0] at this
      cases this
    · exact h0
  have htime := pr_time h.ready hm h2 hgo
  have hgl := zgreat_le (L := A) (m := 1073741824 + 16 * t) h.low (by omega)
  have hpl := prop_len (half := true) h.ready hG
  refine ⟨⟨⟨h3.go.len, h3.go.ok, h3.go.nodup⟩, h3.lives.trans h.lives, ?_, fun s hs => ?_, ?_⟩, ?_⟩
  · rcases htime with k | k
    · have := h.len; omega
    · have := h.len; omega
  · have k1 := h3.go.low s hs
    have k2 : ((prop true A (grps lg per most A)).length : Int) ≤ 16 := by omega
    have k3 : ((t + 1 : Nat) : Int) = (t : Int) + 1 := by omega
    rw [k3]
    omega
  · rcases htime with k | k
    · left; omega
    · right; exact ⟨by omega, k.2⟩
  · rintro ⟨rfl, h0⟩
    have := h3.lives
    simp only [Z.lives] at this
    omega
end Z
end Go.Proofs.Ytfniphaehggcgaa

/-
  The chapter's example, reckoned. No program is named here.
-/
namespace Go.Proofs.Ytfniphaehggcgaa
set_option maxRecDepth 100000
open Go.RowKit

namespace Z
def z1 : Sz := ⟨1, 1, 0, false⟩
def z2 : Sz := ⟨2, 5, 0, false⟩
def z3 : Sz := ⟨3, 1, 0, false⟩
def z4 : Sz := ⟨4, 2, 0, false⟩
def LA : List Sz := [z1, z2, z3]
def XA : List Sz := [z4, z2]
theorem l1 : lev 2 1 = 0 := lev_low (by omega)
theorem l2 : lev 2 2 = 1 := by rw [lev_high (by omega) (by omega)]; show lev 2 1 + 1 = 1; rw [l1]
theorem l5 : lev 2 5 = 2 := by rw [lev_high (by omega) (by omega)]; show lev 2 2 + 1 = 2; rw [l2]
theorem l64 : lev 2 64 = 6 := by
  have h4 : lev 2 4 = 2 := by rw [lev_high (by omega) (by omega)]; show lev 2 2 + 1 = 2; rw [l2]
  have h8 : lev 2 8 = 3 := by rw [lev_high (by omega) (by omega)]; show lev 2 4 + 1 = 3; rw [h4]
  have h16 : lev 2 16 = 4 := by rw [lev_high (by omega) (by omega)]; show lev 2 8 + 1 = 4; rw [h8]
  have h32 : lev 2 32 = 5 := by rw [lev_high (by omega) (by omega)]; show lev 2 16 + 1 = 5; rw [h16]
  rw [lev_high (by omega) (by omega)]; show lev 2 32 + 1 = 6; rw [h32]
theorem lv1 : lv 2 z1 = 0 := l1
theorem lv2 : lv 2 z2 = 2 := l5
theorem lv3 : lv 2 z3 = 0 := l1
theorem lv4 : lv 2 z4 = 1 := l2
theorem of1 (k : Nat) : ofLv 2 k z1 = decide (0 = k) := by rw [ofLv, lv1]; rfl
theorem of2 (k : Nat) : ofLv 2 k z2 = decide (2 = k) := by rw [ofLv, lv2]; rfl
theorem of3 (k : Nat) : ofLv 2 k z3 = decide (0 = k) := by rw [ofLv, lv3]; rfl
theorem of4 (k : Nat) : ofLv 2 k z4 = decide (1 = k) := by rw [ofLv, lv4]; rfl
theorem tierLA : tierG 2 9 LA = [[z1, z3]] := by
  rw [tierG, l64]
  have h0 : chunks 2 9 (LA.filter (ofLv 2 0)) = [[z1, z3]] := by
    have e : LA.filter (ofLv 2 0) = [z1, z3] := by simp [LA, of1, of2, of3]
    rw [e, chunks_more (by omega) (by simp)]
    have h9 : lives ([z1, z3].take 2) ≤ 9 := by simp [lives, live, z1, z3]
    rw [if_pos h9]
    have h8 : chunks 2 9 ([z1, z3].drop 2) = [] := chunks_few (by simp)
    rw [h8]
    rfl
  have hk : ∀ k, k ≠ 0 → chunks 2 9 (LA.filter (ofLv 2 k)) = [] := fun k hk => chunks_few (by
    have e1 : ofLv 2 k z1 = false := by rw [of1]; simp; omega
    have e3 : ofLv 2 k z3 = false := by rw [of3]; simp; omega
    simp only [LA, List.filter_cons, e1, e3, Bool.false_eq_true, if_false, List.filter_nil]
    split <;> simp)
  simp only [tierTo_succ, h0, hk 1 (by omega), hk 2 (by omega), hk 3 (by omega), hk 4 (by omega), hk 5 (by omega), hk 6 (by omega), List.append_nil]
  rfl
theorem tierXA : tierG 2 9 XA = [] := by
  rw [tierG, l64]
  have hk : ∀ k, chunks 2 9 (XA.filter (ofLv 2 k)) = [] := fun k => chunks_few (by
    by_cases h : k = 1
    · subst h
      simp [XA, of2, of4]
    · have e4 : ofLv 2 k z4 = false := by rw [of4]; simp; omega
      simp only [XA, List.filter_cons, e4, Bool.false_eq_true, if_false, List.filter_nil]
      split <;> simp)
  simp only [tierTo_succ, hk, List.append_nil]
  rfl
theorem prLA : pr false 2 9 LA = [[1, 3]] := by
  have e : grps false 2 9 LA = [[z1, z3]] := by rw [grps, if_neg (by simp), tierLA]
  rw [pr, e]
  rfl
theorem prXA : pr false 2 9 XA = [] := by
  have e : grps false 2 9 XA = [] := by rw [grps, if_neg (by simp), tierXA]
  rw [pr, e]
  rfl
theorem prLogs : pr true 2 9 LA = [] := by
  have h1 : alk 2 [z1, z2] = false := by simp only [alk, List.all_cons, List.all_nil, lv1, lv2]; rfl
  have h2 : alk 2 [z2, z3] = false := by simp only [alk, List.all_cons, List.all_nil, lv3, lv2]; rfl
  have e : grps true 2 9 LA = [] := by
    rw [grps, if_pos rfl]
    have a1 : runs 2 9 [z3] = [] := runs_few (by simp)
    have a2 : runs 2 9 [z2, z3] = [] := by rw [runs_no (by omega) (by simp) (by simp [h2])]; exact a1
    show runs 2 9 [z1, z2, z3] = []
    rw [runs_no (by omega) (by simp) (by simp [h1])]
    exact a2
  rw [pr, e]
  rfl
theorem afterLA : after true LA [[1, 3]] = XA := by rfl
theorem untilLA : until_ false 2 9 17 LA 0 = (XA, 1) := by
  have h1 : after true LA (pr false 2 9 LA) = XA := by rw [prLA, afterLA]
  rw [until_, if_neg (by rw [prLA]; simp), h1, if_neg (by simp [XA]), until_, if_pos prXA]
theorem forceLA : prop false LA (forceG 2 LA) = [[1, 2]] := by rfl
theorem readyLA : Ready LA := ⟨by decide, fun s hs => by
  simp only [LA, List.mem_cons, List.not_mem_nil, or_false] at hs
  rcases hs with rfl | rfl | rfl <;> (simp only [Ok, z1, z2, z3]; omega), by decide⟩
theorem polLA : Pol 2 9 := ⟨by omega, by omega⟩
end Z
end Go.Proofs.Ytfniphaehggcgaa

/-
  The contracts of isOf and After.
-/
namespace Go.Proofs.Ytfniphaehggcgaa
set_option maxRecDepth 100000
open Go.RowKit Go.Deep

theorem isOf_any (v : Value) (F : List Int) (w : World) (h : Il w v F) : Calls Try.prog 42 #[v] w fun e w' => e = .returned (.func (.func 52) #[] #[.pointer (some ⟨w.heap.size, 0, none⟩)]) ∧ w' = w.alloc (.cells #[v] 47) := by
  obtain ⟨a, cap, rfl, -⟩ := h.open
  clear h
  go_enter Try.func42, Try.ntmps42
  go_wp2
  go_ret
  exact ⟨rfl, rfl⟩

set_option maxRecDepth 100000 in
set_option maxHeartbeats 8000000 in
theorem after_any (v u : Value) (L : List Sz) (p : List (List Int)) (w : World) (h : Zl w v L) (hp : Tl w u p) (r : Bool) (hr : r = true ↔ Z.Ready L) :
    Calls Try.prog 23 #[v, u] w fun e w' => ∃ v', e = .returned v' ∧ Zl w' v' (Z.after r L p) ∧ Below w.heap.size w w' := by
  have CM := zmay_any v L w h r hr
  have HV := hide h
  have HP := hide hp
  have HR := hide hr
  obtain ⟨a, cap, rfl, -⟩ := h.open
  obtain ⟨a2, cap2, rfl, hq1, hq2, -⟩ := hp.at
  clear h hp hr
  cases r with
  | false =>
    have HE : Hid (Z.after false L p = []) := by show _ = _; rw [Z.after, if_neg (by simp)]
    go_enter Try.func23, Try.ntmps23
    go_wp2_with fail
    refine CM.mono ?_
    rintro e w1 ⟨rfl, B1⟩
    clear CM
    go_wp2
    go_ret
    rw [unhide HE]
    exact ⟨_, rfl, Kl.nil _ _ _, B1⟩
  | true =>
    have hRdy := (unhide HR).1 rfl
    have hll := hRdy.1
    obtain ⟨q, hq⟩ : ∃ q, Z.eats (Z.gens L) p = q := ⟨_, rfl⟩
    have CK := fun w1 (hb : Below w.heap.size w w1) => known_any _ _ L p w1 ((unhide HV).below hb) ((unhide HP).below hb) (by omega) q hq
    cases q with
    | false =>
      have HE : Hid (Z.after true L p = []) := by show _ = _; rw [Z.after, if_neg (by simp [hq])]
      clear hq hRdy
      go_enter Try.func23, Try.ntmps23
      go_wp2_with fail
      refine CM.mono ?_
      rintro e w1 ⟨rfl, B1⟩
      clear CM
      go_wp2_with fail
      refine (CK _ B1).mono ?_
      rintro e w2 ⟨rfl, B2⟩
      have BB := below_trans' B1 B2
      clear CK B1 B2
      go_wp2
      go_ret
      rw [unhide HE]
      exact ⟨_, rfl, Kl.nil _ _ _, BB⟩
    | true =>
      have hpl : p.length ≤ 16 := by
        have := Z.eats_len hRdy.2.2 hq
        have h2 : (Z.gens L).length = L.length := by simp [Z.gens]
        omega
      have CG := fun w1 (hb : Below w.heap.size w w1) => greatest_any _ L w1 ((unhide HV).below hb) (by omega)
      have hg0 := zgreat_pos L
      have hgm : Z.great L ≤ 34359738367 := zgreat_le (fun s hs => (hRdy.2.1 s hs).1.2) (by omega)
      by_cases htop : Z.great L + p.length ≤ 34359738367
      · have HGO := hide (Z.Go.start hRdy hq htop)
        have HE : Hid (Z.after true L p = (Z.going L p (Z.great L + 1)).getD []) := by show _ = _; rw [Z.after, if_pos (by simp [hq, htop])]
        have HRD := hide hRdy
        obtain ⟨G0, hG0⟩ : ∃ g, Z.great L = g := ⟨_, rfl⟩
        rw [hG0] at CG hg0 hgm htop HGO HE
        have ht1 : ¬ (34359738367 : Int) < G0 + (p.length : Int) := by omega
        clear hq hRdy hG0
        go_enter Try.func23, Try.ntmps23
        go_wp2_with fail
        refine CM.mono ?_
        rintro e w1 ⟨rfl, B1⟩
        clear CM
        go_wp2_with fail
        refine (CK _ B1).mono ?_
        rintro e w2 ⟨rfl, B2⟩
        have BB := below_trans' B1 B2
        clear CK B1 B2
        go_wp2_with fail
        refine (CG _ BB).mono ?_
        rintro e w3 ⟨rfl, B3⟩
        have BB3 := below_trans' BB B3
        clear BB B3
        have CC := cloneZ_any _ L w3 ((unhide HV).below BB3) (by omega)
        go_wp2_with fail
        refine CC.mono ?_
        rintro e w4 ⟨v4, rfl, O4, B4⟩
        have BB4 := below_trans' BB3 B4
        have Z4 : Hid (Zl w4 v4 L) := Kl.owned encZ_len (by decide) O4
        clear CC B4 O4 BB3
        go_wp2
        go_loopw [5, 31] (fun av iv wr => ∃ (k : Nat) (A : List Sz), k ≤ p.length ∧ iv = .int .i64 k ∧ Hid (Z.Go A (p.drop k) (G0 + 1 + k)) ∧ Hid (Z.going L p (G0 + 1) = Z.going A (p.drop k) (G0 + 1 + k)) ∧ Hid (Zl wr av A) ∧ Below w.heap.size w wr) (fun _ iv _ => p.length - (intOf iv).toNat)
        case atStart => exact ⟨0, L, Nat.zero_le _, rfl, by simpa using HGO, by (show _ = _; simp), Z4, BB4⟩
        case round =>
          clear Z4 BB4 HGO
          obtain ⟨k, A, hk, rfl, HGO, HGG, HZ, hbel⟩ := hrel
          by_cases hlt : k < p.length
          · obtain ⟨a', c', hv', -, -, ho⟩ := ((unhide HP).below hbel).at
            simp only [Value.slice.injEq, true_and] at hv'
            obtain ⟨rfl, rfl⟩ := hv'
            obtain ⟨b, off, rfl, hb, hc⟩ := ho (by omega)
            obtain ⟨f, hx⟩ : ∃ x, p[k]? = some x := ⟨p[k], List.getElem?_eq_getElem hlt⟩
            obtain ⟨xa, xc, c0, FI⟩ := hc k f hx
            have hgo := unhide HGO
            have hgg := unhide HGG
            rw [drop_at12 hx] at hgo hgg
            rw [Z.going] at hgg
            have hfl : f.length ≤ 16 := by
              have h1 := hgo.flat
              rw [List.flatten_cons, List.nodup_append] at h1
              have h2 := Z.nodup_len h1.1 (fun x hx => hgo.sub x (by rw [List.flatten_cons]; exact List.mem_append_left _ hx))
              have h3 : (Z.gens A).length = A.length := by simp [Z.gens]
              have h4 := hgo.len
              omega
            have hAl := hgo.len
            have hAok := hgo.ok
            have hany := hgo.any
            have hgt : G0 + 1 + (k : Int) ≤ 34359738367 := by omega
            have CG3 := fun w1 (hb : Below w.heap.size w w1) => CG w1 hb
            obtain ⟨aa, ac, rfl, -⟩ := (unhide HZ).open
            have CI := fun w1 (hb : Below wr.heap.size wr w1) => isOf_any _ f w1 (FI.below hb)
            have egi : ∀ args w, (callFunc 52 args).run Try.prog w = .ok (.enter 52 args) w := enters_of Try.func52 (by kernel_rfl) rfl
            have CO := fun (w1 : World) (P : Nat) (hb : Below wr.heap.size wr w1) (hc : w1.cell? ⟨P, 0, none⟩ = some (.slice xa f.length xc)) => only_any 52 egi #[.pointer (some ⟨P, 0, none⟩)] (Z.isIn f) _ A w1 (Kl.below (unhide HZ) hb) (by omega)
              (fun s _ w2 hb2 => isOf1_any s P _ f w2 (cell_keep hc hb2) ((FI.below hb).below hb2) (by omega))
            have CRep := fun (w1 : World) (P : Nat) (m : Sz) (hb : Below wr.heap.size wr w1) (hc : w1.cell? ⟨P, 0, none⟩ = some (.slice xa f.length xc)) => replaced_any 52 egi #[.pointer (some ⟨P, 0, none⟩)] (Z.isIn f) _ A m w1 (Kl.below (unhide HZ) hb) (by omega) hany
              (fun s _ w2 hb2 => isOf1_any s P _ f w2 (cell_keep hc hb2) ((FI.below hb).below hb2) (by omega))
            have hFit : Z.Fit (A.filter (Z.isIn f)) := ⟨Nat.le_trans (List.length_filter_le _ _) hAl, fun s hs => hAok s (List.mem_filter.1 hs).1⟩
            obtain ⟨D, hD⟩ : ∃ d, Z.docs A f = d := ⟨_, rfl⟩
            have CLv := fun (w1 : World) (v1 : Value) (hz : Zl w1 v1 (A.filter (Z.isIn f))) => lives_any v1 _ w1 hz hFit
            rw [show Z.lives (A.filter (Z.isIn f)) = D from hD] at CLv
            have hD0 : 0 ≤ D := by rw [← hD]; exact Z.docs_nonneg hAok f
            have hD1 : D ≤ 1024 := by
              rw [← hD]
              have := (Z.lives_le hFit.2).2
              have := hFit.1
              show Z.lives _ ≤ _
              omega
            rw [hD] at hgg
            have HGO2 := hide hgo
            have HDD := hide hD
            have hw2 : IntKind.i64.wrap (G0 + 1) = G0 + 1 := by rw [IntKind.wrap_i64]; omega
            have hw3 : IntKind.i64.wrap (G0 + 1 + (k : Int)) = G0 + 1 + (k : Int) := by rw [IntKind.wrap_i64]; omega
            have HFI := hide FI
            clear ho hc hx hgo hAok hany FI hD HGO HGG hFit
            go_wp2_with fail
            refine (CG3 _ hbel).mono ?_
            rintro e w5 ⟨rfl, B5⟩
            have BB5 := below_trans' hbel B5
            clear CG3
            go_wp2_with fail
            refine (CI _ B5).mono ?_
            rintro e w6 ⟨rfl, rfl⟩
            have B6 := below_all B5 (.cells #[.slice xa f.length xc] 47)
            have cP : (w5.alloc (.cells #[.slice xa f.length xc] 47)).cell? ⟨w5.heap.size, 0, none⟩ = some (.slice xa f.length xc) := box_cell (heap_alloc_new w5 _) rfl
            have CO6 := CO _ w5.heap.size B6 cP
            clear CO
            go_wp2_with fail
            refine CO6.mono ?_
            rintro e w7 ⟨v7, rfl, O7, B7⟩
            have BW7 := below_trans' B6 B7
            have CL7 := CLv w7 v7 (Kl.owned encZ_len (by decide) O7)
            obtain ⟨a7, c7, rfl, -⟩ := zl_spot O7
            clear CO6 CLv O7 B7 cP
            go_wp2_with fail
            refine CL7.mono ?_
            rintro e w8 ⟨rfl, B8⟩
            have BW8 := below_trans' BW7 B8
            clear CL7 BW7 B8 B6 B5 BB5
            obtain ⟨W, hW⟩ : ∃ W, W = w8.alloc (.cells #[.int .i64 (G0 + 1 + (k : Int)), .int .i64 D, .int .i64 0, .bool false] 36) := ⟨_, rfl⟩
            have BWW : Below wr.heap.size wr W := by rw [hW]; exact below_all BW8 _
            have BB9 := below_trans' hbel BWW
            obtain ⟨d0, d1, d2, d3⟩ := box4 (s := ⟨G0 + 1 + (k : Int), D, 0, false⟩) (w := W) (g := w8.heap.size) (fr := (0, 0)) (T := 36) (by rw [hW]; exact heap_alloc_new w8 _)
            simp only at d0 d1 d2 d3
            have HW := hide hW
            clear hW BW8
            by_cases hov : 64 < D
            · rw [if_pos hov] at hgg
              have HE2 : Hid (Z.after true L p = []) := by show _ = _; rw [unhide HE, hgg]; rfl
              clear hgg
              go_wp2
              go_ret
              rw [← unhide HW, unhide HE2]
              exact ⟨_, rfl, Kl.nil _ _ _, BB9⟩
            · rw [if_neg hov] at hgg
              have hGoN := (unhide HGO2).next (by rw [unhide HDD]; omega)
              have hmade : Z.made A f (G0 + 1 + (k : Int)) = ⟨G0 + 1 + (k : Int), D, 0, false⟩ := by rw [Z.made, unhide HDD]
              have HST : Hid (Z.step A f (G0 + 1 + (k : Int)) = Z.repl (Z.isIn f) ⟨G0 + 1 + (k : Int), D, 0, false⟩ A) := by show _ = _; rw [Z.step, hmade]
              have e9 : G0 + 1 + (k : Int) + 1 = G0 + 1 + ((k + 1 : Nat) : Int) := by omega
              rw [e9] at hGoN hgg
              have HGN := hide hGoN
              have HGG := hide hgg
              obtain ⟨R9, hR9⟩ : ∃ R, Z.repl (Z.isIn f) ⟨G0 + 1 + (k : Int), D, 0, false⟩ A = R := ⟨_, rfl⟩
              have HRR := hide hR9
              have CI9 : ∀ w1, Below W.heap.size W w1 → Calls Try.prog 42 #[.slice xa f.length xc] w1 fun e w' => ∃ P : Nat, e = .returned (.func (.func 52) #[] #[.pointer (some ⟨P, 0, none⟩)]) ∧ w'.cell? ⟨P, 0, none⟩ = some (.slice xa f.length xc) ∧ Below w1.heap.size w1 w' := fun w1 hb => (CI w1 (below_trans' BWW hb)).mono (by
                rintro e w' ⟨rfl, rfl⟩
                exact ⟨w1.heap.size, rfl, box_cell (heap_alloc_new w1 _) rfl, below_alloc _ _⟩)
              have CR9 : ∀ (w1 : World) (P : Nat), Below W.heap.size W w1 → w1.cell? ⟨P, 0, none⟩ = some (.slice xa f.length xc) → Calls Try.prog 43 #[.slice aa A.length ac, .func (.func 52) #[] #[.pointer (some ⟨P, 0, none⟩)], .agg #[.int .i64 (G0 + 1 + (k : Int)), .int .i64 D, .int .i64 0, .bool false]] w1 fun e w' => ∃ a c, e = .returned (.slice a R9.length c) ∧ Zl w' (.slice a R9.length c) R9 ∧ Below w1.heap.size w1 w' := fun w1 P hb hc => (CRep w1 P ⟨G0 + 1 + (k : Int), D, 0, false⟩ (below_trans' BWW hb) hc).mono (by
                rintro e w' ⟨v', h1, h2, h3⟩
                rw [hR9] at h2
                have h4 : Zl w' v' R9 := Kl.owned encZ_len (by decide) h2
                obtain ⟨a, c, rfl, -⟩ := h4.open
                exact ⟨a, c, h1, h4, h3⟩)
              clear hgg hGoN hmade e9 hR9 CI CRep
              go_upto_region 11 with fail
              rw [← unhide HW]
              go_region_held3 (fun w' => w'.cell? ⟨w8.heap.size, 0, none⟩ = some (.int .i64 (G0 + 1 + (k : Int))) ∧ w'.cell? ⟨w8.heap.size, 1, none⟩ = some (.int .i64 D) ∧ w'.cell? ⟨w8.heap.size, 2, none⟩ = some (.int .i64 0) ∧ w'.cell? ⟨w8.heap.size, 3, none⟩ = some (.bool false) ∧ Below W.heap.size W w')
                (first
                  | with_reducible assumption
                  | (go_split_ands; exact ⟨d0, d1, d2, d3, (Below.refl _ _).drew⟩)
                  | (go_split_ands; exact ⟨cell_keep (by assumption) B11, cell_keep (by assumption) B11, cell_keep (by assumption) B11, cell_keep (by assumption) B11, below_trans' (by assumption) B11⟩)
                  | (go_split_ands; exact ⟨cell_keep (by assumption) B10, cell_keep (by assumption) B10, cell_keep (by assumption) B10, cell_keep (by assumption) B10, below_trans' (by assumption) B10⟩))
                (first
                  | (go_at_call 42; go_split_ands; refine (CI9 _ ?_).mono ?_; assumption; rintro e w10 ⟨P10, rfl, cP, B10⟩)
                  | (go_at_call 43; go_split_ands; refine (CR9 _ _ ?_ cP).mono ?_; assumption; rintro e w11 ⟨a11, c11, rfl, Z11, B11⟩))
              have Z12 := hide Z11
              have HST2 : Hid (Zl w11 (.slice a11 R9.length c11) (Z.step A f (G0 + 1 + (k : Int)))) := by
                show Zl _ _ _
                rw [unhide HST, unhide HRR]
                exact Z11
              have BB11 := below_trans' BB9 (below_trans' (by assumption : Below W.heap.size W w10) B11)
              clear d0 d1 d2 d3 CI9 CR9 B10 B11 cP Z11 Z12
              go_wp2
              go_roundw
              case rel => exact ⟨k + 1, _, by omega, by go_num, HGN, hide ((unhide HGG)), HST2, BB11⟩
              case measure => simp [intOf]; omega
          · have hgg := unhide HGG
            rw [List.drop_eq_nil_of_le (by omega), Z.going] at hgg
            have HE2 : Hid (Z.after true L p = A) := by show _ = _; rw [unhide HE, hgg]; rfl
            clear hgg
            obtain ⟨aa, ac, rfl, -⟩ := (unhide HZ).open
            go_wp2
            go_ret
            rw [unhide HE2]
            exact ⟨_, rfl, unhide HZ, hbel⟩
      · have HE : Hid (Z.after true L p = []) := by show _ = _; rw [Z.after, if_neg (by simp [hq]; omega)]
        obtain ⟨G0, hG0⟩ : ∃ g, Z.great L = g := ⟨_, rfl⟩
        rw [hG0] at CG hg0 hgm htop
        have ht1 : (34359738367 : Int) < G0 + (p.length : Int) := by omega
        clear hq hRdy hG0 htop
        go_enter Try.func23, Try.ntmps23
        go_wp2_with fail
        refine CM.mono ?_
        rintro e w1 ⟨rfl, B1⟩
        clear CM
        go_wp2_with fail
        refine (CK _ B1).mono ?_
        rintro e w2 ⟨rfl, B2⟩
        have BB := below_trans' B1 B2
        clear CK B1 B2
        go_wp2_with fail
        refine (CG _ BB).mono ?_
        rintro e w3 ⟨rfl, B3⟩
        have BB3 := below_trans' BB B3
        clear BB B3
        go_wp2
        go_ret
        rw [unhide HE]
        exact ⟨_, rfl, Kl.nil _ _ _, BB3⟩
end Go.Proofs.Ytfniphaehggcgaa

/-
  The contract of Until.
-/
namespace Go.Proofs.Ytfniphaehggcgaa
set_option maxRecDepth 100000
open Go.RowKit Go.Deep

/-- What propose tells of a policy's number. -/
theorem propose_pol (lg : Bool) (v : Value) (L : List Sz) (per most : Int) (W : World) (h : Zl W v L) (hr : Z.Ready L) (hP : Z.Pol per most) :
    Calls Try.prog 29 #[v, .int .i64 (if lg = true then 1 else 0), bv per most 0] W fun e w' => ∃ v', e = .returned v' ∧ Tl w' v' (Z.pr lg per.toNat most L) ∧ Below W.heap.size W w' := by
  have eg1 : ∀ args w, (callFunc 36 args).run Try.prog w = .ok (.enter 36 args) w := enters_of Try.func36 (by kernel_rfl) rfl
  have eg3 : ∀ args w, (callFunc 57 args).run Try.prog w = .ok (.enter 57 args) w := enters_of Try.func57 (by kernel_rfl) rfl
  have hF := hr.fit
  cases lg with
  | false =>
    have eg2 : ∀ args w, (callFunc 56 args).run Try.prog w = .ok (.enter 56 args) w := enters_of Try.func56 (by kernel_rfl) rfl
    have := propose_gen 0 _ _ _ eg1 eg2 eg3 true true (Z.tierG per.toNat most L) v L per most 0 W h (fun w1 => numbered0_any w1) (fun w1 => mayTier_any per most 0 w1 true ⟨fun _ => hP, fun _ => rfl⟩) (fun _ _ w1 hz => ofLevels_any v L per most 0 w1 hz hF hP) (fun s hs w1 => mostlyDead_any s w1 hs)
        (by have := Z.tierTo_len (per := per.toNat) (most := most) hF (Z.lev per.toNat 64 + 1); have := Z.lev_64 (per := per.toNat) (by have := hP.1.1; omega) (by have := hP.1.2; omega); show (Z.tierTo _ _ _ _).length ≤ 1000; omega)
        (fun g hg => by
          obtain ⟨i, -, hg⟩ := Z.tierTo_mem hg
          obtain ⟨k1, k2, -, -⟩ := Z.chunks_mem _ (Nat.le_refl _) hg
          have := hP.1.2
          omega) true ⟨fun _ => hr, fun _ => rfl⟩
    exact this
  | true =>
    have eg2 : ∀ args w, (callFunc 58 args).run Try.prog w = .ok (.enter 58 args) w := enters_of Try.func58 (by kernel_rfl) rfl
    have := propose_gen 1 _ _ _ eg1 eg2 eg3 true true (Z.runs per.toNat most L) v L per most 0 W h (fun w1 => numbered1_any w1) (fun w1 => mayTier_any per most 0 w1 true ⟨fun _ => hP, fun _ => rfl⟩) (fun _ _ w1 hz => ofRuns_any v L per most 0 w1 hz hF hP) (fun s hs w1 => mostlyDead_any s w1 hs)
        (by have := Z.runs_len per.toNat most _ L (Nat.le_refl _); have := hF.1; omega)
        (fun g hg => by
          obtain ⟨k1, k2, -, -, -⟩ := Z.runs_mem _ (Nat.le_refl _) hg
          have := hP.1.2
          omega) true ⟨fun _ => hr, fun _ => rfl⟩
    exact this

/-- What Until hands back. -/
def UntilEnd (w : World) (lg : Bool) (per most : Int) (L : List Sz) (e : Ending) (w' : World) : Prop :=
  ∃ (v' : Value) (A : List Sz) (t : Nat), e = .returned (.tuple #[v', .int .i64 (t : Int)]) ∧ Zl w' v' A ∧ Z.UI lg per.toNat most L.length (Z.lives L) A t ∧ Z.pr lg per.toNat most A = [] ∧ Z.until_ lg per.toNat most 17 L 0 = (A, t) ∧ Below w.heap.size w w'

set_option maxRecDepth 100000 in
set_option maxHeartbeats 8000000 in
theorem until_any (v : Value) (L : List Sz) (per most : Int) (lg : Bool) (w : World) (h : Zl w v L) (hr : Z.Ready L) (hP : Z.Pol per most) (hlow : ∀ s ∈ L, s.gen ≤ 1073741824) :
    Calls Try.prog 21 #[v, .agg #[.int .i64 per, .int .i64 most], .bool lg] w (UntilEnd w lg per most L) := by
  have HU0 : Hid (Z.UI lg per.toNat most L.length (Z.lives L) L 0) := ⟨hr, rfl, Nat.le_refl _, fun s hs => by have := hlow s hs; omega, .inl (by omega)⟩
  have hll := hr.1
  obtain ⟨W, hW⟩ : ∃ W, W = w.alloc (.cells #[.int .i64 per, .int .i64 most] 24) := ⟨_, rfl⟩
  have BW : Below w.heap.size w W := by rw [hW]; exact below_alloc _ _
  have b0 : W.cell? ⟨w.heap.size, 0, none⟩ = some (.int .i64 per) := by rw [hW]; exact box_cell (heap_alloc_new w _) rfl
  have b1 : W.cell? ⟨w.heap.size, 1, none⟩ = some (.int .i64 most) := by rw [hW]; exact box_cell (heap_alloc_new w _) rfl
  have hm64 := hP.2.2
  have CM := zmay_any v L W (h.below BW) true ⟨fun _ => hr, fun _ => rfl⟩
  have CT := fun w1 => mayTier_any per most 0 w1 true ⟨fun _ => hP, fun _ => rfl⟩
  unfold bv at CT
  have HV := hide h
  obtain ⟨a, cap, rfl, -⟩ := h.open
  have HP := hide hP
  have HW := hide hW
  obtain ⟨num, hnum⟩ : ∃ num : Int, num = (if lg = true then 1 else 0) := ⟨_, rfl⟩
  have CPR := fun (v1 : Value) (A : List Sz) (w1 : World) (hz : Zl w1 v1 A) (hA : Z.Ready A) => propose_pol lg v1 A per most w1 hz hA (unhide HP)
  rw [← hnum] at CPR
  unfold bv at CPR
  have HPR := hide CPR
  clear hW h hP hr hlow CPR
  cases lg with
  | false =>
    simp only [Bool.false_eq_true, if_false] at hnum
    subst hnum
    go_enter Try.func21, Try.ntmps21
    go_wp2_with fail
    rw [← unhide HW]
    refine CM.mono ?_
    rintro e w1 ⟨rfl, B1⟩
    have BB1 := below_trans' BW B1
    have b0 := cell_keep b0 B1
    have b1 := cell_keep b1 B1
    go_wp2_with fail
    refine (CT _).mono ?_
    rintro e w2 ⟨rfl, B2⟩
    have BB2 := below_trans' BB1 B2
    have b0 := cell_keep b0 B2
    have b1 := cell_keep b1 B2
    have CC := cloneZ_any _ L w2 ((unhide HV).below BB2) (by omega)
    clear B1 B2 BB1 CM CT
    go_wp2_with fail
    refine CC.mono ?_
    rintro e w3 ⟨v3, rfl, O3, B3⟩
    have BB3 := below_trans' BB2 B3
    have b0 := cell_keep b0 B3
    have b1 := cell_keep b1 B3
    have Z3 : Hid (Zl w3 v3 L) := Kl.owned encZ_len (by decide) O3
    clear CC B3 O3 BB2
    go_wp2
    go_loopw [9, 10] (fun av iv wr => ∃ (t : Nat) (A : List Sz), t ≤ 16 ∧ iv = .int .i64 t ∧ Hid (Z.UI false per.toNat most L.length (Z.lives L) A t) ∧ Hid (Z.until_ false per.toNat most 17 L 0 = Z.until_ false per.toNat most (17 - t) A t) ∧ Hid (Zl wr av A) ∧ Below w3.heap.size w3 wr) (fun _ iv _ => 17 - (intOf iv).toNat)
    case atStart => exact ⟨0, L, by omega, rfl, HU0, rfl, Z3, Below.refl _ _⟩
    case round =>
      clear Z3 HU0
      obtain ⟨t, A, ht, rfl, HU, HUN, HZ, hbel⟩ := hrel
      have b0 := cell_keep b0 hbel
      have b1 := cell_keep b1 hbel
      have hu := unhide HU
      have CP := unhide HPR u9 A wr (unhide HZ) hu.ready
      obtain ⟨aa, ac, rfl, -⟩ := (unhide HZ).open
      have hAl := hu.ready.1
      have hsr := hbel.size
      clear hu
      go_wp2_with fail
      refine CP.mono ?_
      rintro e w4 ⟨v4, rfl, T4, B4⟩
      have b0 := cell_keep b0 B4
      have b1 := cell_keep b1 B4
      have BB4 : Below w3.heap.size w3 w4 := hbel.trans (B4.mono hsr)
      have Z4 := Kl.below (unhide HZ) B4
      obtain ⟨a4, c4, rfl, hc4, hc5, -⟩ := T4.at
      obtain ⟨R0, hR0⟩ : ∃ R, Z.until_ false per.toNat most 17 L 0 = R := ⟨_, rfl⟩
      have hun := unhide HUN
      rw [hR0] at hun
      rw [show 17 - t = (16 - t) + 1 by omega, Z.until_] at hun
      have HR0 := hide hR0
      clear hR0
      have hs4 := BB4.size
      by_cases hp : Z.pr false per.toNat most A = []
      · rw [if_pos hp] at hun
        have q : (((Z.pr false per.toNat most A).length : Int) == 0) = true := by rw [hp]; rfl
        have HEND : Hid (Z.pr false per.toNat most A = [] ∧ Z.until_ false per.toNat most 17 L 0 = (A, t)) := ⟨hp, (unhide HR0).trans hun⟩
        have HZ4 := hide Z4
        clear CP T4 B4 hun hp Z4
        go_wp2
        go_ret2
        exact ⟨_, A, t, rfl, unhide HZ4, unhide HU, (unhide HEND).1, (unhide HEND).2, BB3.trans (BB4.mono BB3.size)⟩
      · rw [if_neg hp] at hun
        have hst := (unhide HU).step hll hm64 hp
        rw [if_neg hst.2] at hun
        have q : (((Z.pr false per.toNat most A).length : Int) == 0) = false := by
          refine beq_eq_false_iff_ne.2 fun e => hp (List.eq_nil_of_length_eq_zero (by omega))
        have CA := after_any _ _ A (Z.pr false per.toNat most A) w4 Z4 T4 true ⟨fun _ => (unhide HU).ready, fun _ => rfl⟩
        obtain ⟨X, hX⟩ : ∃ X, Z.after true A (Z.pr false per.toNat most A) = X := ⟨_, rfl⟩
        rw [hX] at CA hun hst
        have HUX := hide hst.1
        have hle := hst.1.le
        have hnx := hst.2
        have hXl := hst.1.ready.1
        have HUN2 : Hid (Z.until_ false per.toNat most 17 L 0 = Z.until_ false per.toNat most (17 - (t + 1)) X (t + 1)) := by
          show _ = _
          rw [unhide HR0, hun, show 16 - t = 17 - (t + 1) by omega]
        have hFA := (unhide HU).ready.fit
        have CV := fun w1 (hb : Below w4.heap.size w4 w1) => lives_any _ A w1 (Kl.below Z4 hb) hFA
        obtain ⟨n, hn⟩ : ∃ n, Z.lives A = n := ⟨_, rfl⟩
        rw [hn] at CV hnx
        have ht1 : t + 1 ≤ 16 := by omega
        clear CP hun hst hX T4 B4 Z4 hFA hn hp HUN HU
        go_wp2_with fail
        refine CA.mono ?_
        rintro e w5 ⟨v5, rfl, Z5, B5⟩
        have BB5 : Below w3.heap.size w3 w5 := BB4.trans (B5.mono hs4)
        have b0 := cell_keep b0 B5
        have b1 := cell_keep b1 B5
        have hs5 := BB5.size
        obtain ⟨a5, c5, rfl, -⟩ := Z5.open
        have HZ5 := hide Z5
        clear CA Z5 BB4
        by_cases hx0 : X = []
        · have q5 : ((X.length : Int) == 0) = true := by rw [hx0]; rfl
          have hn0 : ¬ 0 < n := fun hh => hnx ⟨hx0, hh⟩
          have q6 : decide (0 < n) = false := by simpa using hn0
          clear hnx hx0
          go_wp2_with fail
          refine (CV _ B5).mono ?_
          rintro e w6 ⟨rfl, B6⟩
          have BB6 : Below w3.heap.size w3 w6 := BB5.trans (B6.mono hs5)
          have HZ6 := hide (Kl.below (unhide HZ5) B6)
          clear CV B6 B5
          go_wp2
          go_roundw
          case rel => exact ⟨t + 1, X, ht1, by go_num, HUX, HUN2, HZ6, BB6⟩
          case measure => simp [intOf]; omega
        · have q5 : ((X.length : Int) == 0) = false := beq_eq_false_iff_ne.2 fun e => hx0 (List.eq_nil_of_length_eq_zero (by omega))
          clear hnx hx0 CV B5
          go_wp2
          go_roundw
          case rel => exact ⟨t + 1, X, ht1, by go_num, HUX, HUN2, HZ5, BB5⟩
          case measure => simp [intOf]; omega
  | true =>
    simp only [if_true] at hnum
    subst hnum
    go_enter Try.func21, Try.ntmps21
    go_wp2_with fail
    rw [← unhide HW]
    refine CM.mono ?_
    rintro e w1 ⟨rfl, B1⟩
    have BB1 := below_trans' BW B1
    have b0 := cell_keep b0 B1
    have b1 := cell_keep b1 B1
    go_wp2_with fail
    refine (CT _).mono ?_
    rintro e w2 ⟨rfl, B2⟩
    have BB2 := below_trans' BB1 B2
    have b0 := cell_keep b0 B2
    have b1 := cell_keep b1 B2
    have CC := cloneZ_any _ L w2 ((unhide HV).below BB2) (by omega)
    clear B1 B2 BB1 CM CT
    go_wp2_with fail
    refine CC.mono ?_
    rintro e w3 ⟨v3, rfl, O3, B3⟩
    have BB3 := below_trans' BB2 B3
    have b0 := cell_keep b0 B3
    have b1 := cell_keep b1 B3
    have Z3 : Hid (Zl w3 v3 L) := Kl.owned encZ_len (by decide) O3
    clear CC B3 O3 BB2
    go_wp2
    go_loopw [9, 10] (fun av iv wr => ∃ (t : Nat) (A : List Sz), t ≤ 16 ∧ iv = .int .i64 t ∧ Hid (Z.UI true per.toNat most L.length (Z.lives L) A t) ∧ Hid (Z.until_ true per.toNat most 17 L 0 = Z.until_ true per.toNat most (17 - t) A t) ∧ Hid (Zl wr av A) ∧ Below w3.heap.size w3 wr) (fun _ iv _ => 17 - (intOf iv).toNat)
    case atStart => exact ⟨0, L, by omega, rfl, HU0, rfl, Z3, Below.refl _ _⟩
    case round =>
      clear Z3 HU0
      obtain ⟨t, A, ht, rfl, HU, HUN, HZ, hbel⟩ := hrel
      have b0 := cell_keep b0 hbel
      have b1 := cell_keep b1 hbel
      have hu := unhide HU
      have CP := unhide HPR u9 A wr (unhide HZ) hu.ready
      obtain ⟨aa, ac, rfl, -⟩ := (unhide HZ).open
      have hAl := hu.ready.1
      have hsr := hbel.size
      clear hu
      go_wp2_with fail
      refine CP.mono ?_
      rintro e w4 ⟨v4, rfl, T4, B4⟩
      have b0 := cell_keep b0 B4
      have b1 := cell_keep b1 B4
      have BB4 : Below w3.heap.size w3 w4 := hbel.trans (B4.mono hsr)
      have Z4 := Kl.below (unhide HZ) B4
      obtain ⟨a4, c4, rfl, hc4, hc5, -⟩ := T4.at
      obtain ⟨R0, hR0⟩ : ∃ R, Z.until_ true per.toNat most 17 L 0 = R := ⟨_, rfl⟩
      have hun := unhide HUN
      rw [hR0] at hun
      rw [show 17 - t = (16 - t) + 1 by omega, Z.until_] at hun
      have HR0 := hide hR0
      clear hR0
      have hs4 := BB4.size
      by_cases hp : Z.pr true per.toNat most A = []
      · rw [if_pos hp] at hun
        have q : (((Z.pr true per.toNat most A).length : Int) == 0) = true := by rw [hp]; rfl
        have HEND : Hid (Z.pr true per.toNat most A = [] ∧ Z.until_ true per.toNat most 17 L 0 = (A, t)) := ⟨hp, (unhide HR0).trans hun⟩
        have HZ4 := hide Z4
        clear CP T4 B4 hun hp Z4
        go_wp2
        go_ret2
        exact ⟨_, A, t, rfl, unhide HZ4, unhide HU, (unhide HEND).1, (unhide HEND).2, BB3.trans (BB4.mono BB3.size)⟩
      · rw [if_neg hp] at hun
        have hst := (unhide HU).step hll hm64 hp
        rw [if_neg hst.2] at hun
        have q : (((Z.pr true per.toNat most A).length : Int) == 0) = false := by
          refine beq_eq_false_iff_ne.2 fun e => hp (List.eq_nil_of_length_eq_zero (by omega))
        have CA := after_any _ _ A (Z.pr true per.toNat most A) w4 Z4 T4 true ⟨fun _ => (unhide HU).ready, fun _ => rfl⟩
        obtain ⟨X, hX⟩ : ∃ X, Z.after true A (Z.pr true per.toNat most A) = X := ⟨_, rfl⟩
        rw [hX] at CA hun hst
        have HUX := hide hst.1
        have hle := hst.1.le
        have hnx := hst.2
        have hXl := hst.1.ready.1
        have HUN2 : Hid (Z.until_ true per.toNat most 17 L 0 = Z.until_ true per.toNat most (17 - (t + 1)) X (t + 1)) := by
          show _ = _
          rw [unhide HR0, hun, show 16 - t = 17 - (t + 1) by omega]
        have hFA := (unhide HU).ready.fit
        have CV := fun w1 (hb : Below w4.heap.size w4 w1) => lives_any _ A w1 (Kl.below Z4 hb) hFA
        obtain ⟨n, hn⟩ : ∃ n, Z.lives A = n := ⟨_, rfl⟩
        rw [hn] at CV hnx
        have ht1 : t + 1 ≤ 16 := by omega
        clear CP hun hst hX T4 B4 Z4 hFA hn hp HUN HU
        go_wp2_with fail
        refine CA.mono ?_
        rintro e w5 ⟨v5, rfl, Z5, B5⟩
        have BB5 : Below w3.heap.size w3 w5 := BB4.trans (B5.mono hs4)
        have b0 := cell_keep b0 B5
        have b1 := cell_keep b1 B5
        have hs5 := BB5.size
        obtain ⟨a5, c5, rfl, -⟩ := Z5.open
        have HZ5 := hide Z5
        clear CA Z5 BB4
        by_cases hx0 : X = []
        · have q5 : ((X.length : Int) == 0) = true := by rw [hx0]; rfl
          have hn0 : ¬ 0 < n := fun hh => hnx ⟨hx0, hh⟩
          have q6 : decide (0 < n) = false := by simpa using hn0
          clear hnx hx0
          go_wp2_with fail
          refine (CV _ B5).mono ?_
          rintro e w6 ⟨rfl, B6⟩
          have BB6 : Below w3.heap.size w3 w6 := BB5.trans (B6.mono hs5)
          have HZ6 := hide (Kl.below (unhide HZ5) B6)
          clear CV B6 B5
          go_wp2
          go_roundw
          case rel => exact ⟨t + 1, X, ht1, by go_num, HUX, HUN2, HZ6, BB6⟩
          case measure => simp [intOf]; omega
        · have q5 : ((X.length : Int) == 0) = false := beq_eq_false_iff_ne.2 fun e => hx0 (List.eq_nil_of_length_eq_zero (by omega))
          clear hnx hx0 CV B5
          go_wp2
          go_roundw
          case rel => exact ⟨t + 1, X, ht1, by go_num, HUX, HUN2, HZ5, BB5⟩
          case measure => simp [intOf]; omega
end Go.Proofs.Ytfniphaehggcgaa

/-
  The contract of the statements' own awake: the chapter's example holds.
-/
namespace Go.Proofs.Ytfniphaehggcgaa
set_option maxRecDepth 100000
open Go.RowKit Go.Deep

theorem zlit (w : World) (cs : Array Value) (L : List Sz) (n : Nat) (hn : L.length = n) (h : cs.toList = L.flatMap encZ) (hl : n ≤ 1000) : Zl (w.alloc (.cells cs 36)) (.slice (some ⟨w.heap.size, 0, none⟩) n n) L := by
  have hs : cs.size = n * 4 := by
    have := congrArg List.length h
    rw [flat_len encZ_len, hn] at this
    simpa using this
  have hlit := World.ownsRow_lit (base := 0) (size := 4) (e := 36) w cs n (Nat.zero_le _) (by unfold maxLen; omega) hs
  rw [h] at hlit
  exact Kl.owned encZ_len (by decide) hlit
theorem ilit (w : World) (cs : Array Value) (l : List Int) (n : Nat) (hn : l.length = n) (h : cs.toList = l.map (Value.int .i64)) (hl : n ≤ 1000) : Il (w.alloc (.cells cs 3)) (.slice (some ⟨w.heap.size, 0, none⟩) n n) l := by
  have hs : cs.size = n * 1 := by
    have := congrArg List.length h
    simp at this
    omega
  have hlit := World.ownsRow_lit (base := 0) (size := 1) (e := 3) w cs n (Nat.zero_le _) (by unfold maxLen; omega) hs
  rw [h] at hlit
  exact Gl.owned hlit
theorem tlit1 (w : World) (s : Pts) (l : List Int) (h : Il w (sv s) l) : Tl (w.alloc (.cells #[sv s] 47)) (.slice (some ⟨w.heap.size, 0, none⟩) 1 1) [l] := by
  have hlit := World.ownsRow_lit (base := 0) (size := 1) (e := 47) w #[sv s] 1 (Nat.zero_le _) (by unfold maxLen; omega) rfl
  refine ⟨[s], Gl.owned (f := sv) (l := [s]) hlit, rfl, fun i t l' ht hl' => ?_⟩
  match i, ht, hl' with
  | 0, ht, hl' =>
    simp at ht hl'
    subst ht hl'
    exact Gl.below h (below_alloc _ _)
  | i + 1, ht, _ => simp at ht

set_option maxRecDepth 100000 in
set_option maxHeartbeats 8000000 in
theorem awake12_any (w : World) : Calls Try.prog 9 #[] w fun e w' => e = .returned (.bool true) ∧ Below w.heap.size w w' := by
  obtain ⟨W0, hW0⟩ : ∃ W, W = w.alloc (.cells #[.int .i64 1, .int .i64 1, .int .i64 0, .bool false, .int .i64 2, .int .i64 5, .int .i64 0, .bool false, .int .i64 3, .int .i64 1, .int .i64 0, .bool false] 36) := ⟨_, rfl⟩
  have Z0 : Zl W0 (.slice (some ⟨w.heap.size, 0, none⟩) 3 3) Z.LA := by rw [hW0]; exact zlit w _ Z.LA 3 rfl rfl (by omega)
  have B00 : Below w.heap.size w W0 := by rw [hW0]; exact below_alloc _ _
  have hs0 : W0.heap.size = w.heap.size + 1 := by rw [hW0]; simp
  obtain ⟨W, hW⟩ : ∃ W, W = W0.alloc (.cells #[.int .i64 2, .int .i64 9] 24) := ⟨_, rfl⟩
  have B0W : Below W0.heap.size W0 W := by rw [hW]; exact below_alloc _ _
  have BW : Below w.heap.size w W := below_trans' B00 B0W
  have HZ := hide (Kl.below Z0 B0W)
  have t0 : W.cell? ⟨w.heap.size + 1, 0, none⟩ = some (.int .i64 2) := by rw [← hs0, hW]; exact box_cell (heap_alloc_new W0 _) rfl
  have t1 : W.cell? ⟨w.heap.size + 1, 1, none⟩ = some (.int .i64 9) := by rw [← hs0, hW]; exact box_cell (heap_alloc_new W0 _) rfl
  rw [hW0] at hW
  have HW := hide hW
  obtain ⟨sl, hsl⟩ : ∃ sl, sl = Value.slice (some ⟨w.heap.size, 0, none⟩) 3 3 := ⟨_, rfl⟩
  have CTi := fun w1 (hb : Below W.heap.size W w1) => tiered_any _ Z.LA 2 9 w1 (Kl.below (unhide HZ) hb) true true ⟨fun _ => Z.readyLA, fun _ => rfl⟩ ⟨fun _ => Z.polLA, fun _ => rfl⟩
  have CUn := fun w1 (hb : Below W.heap.size W w1) => until_any _ Z.LA 2 9 false w1 (Kl.below (unhide HZ) hb) Z.readyLA Z.polLA (fun s hs => by
    simp only [Z.LA, List.mem_cons, List.not_mem_nil, or_false] at hs
    rcases hs with rfl | rfl | rfl <;> decide)
  have CLo := fun w1 (hb : Below W.heap.size W w1) => logs_any _ Z.LA 2 9 w1 (Kl.below (unhide HZ) hb) true true ⟨fun _ => Z.readyLA, fun _ => rfl⟩ ⟨fun _ => Z.polLA, fun _ => rfl⟩
  have CMa := fun w1 (hb : Below W.heap.size W w1) => zmay_any _ Z.LA w1 (Kl.below (unhide HZ) hb) true ⟨fun _ => Z.readyLA, fun _ => rfl⟩
  have CAf := fun w1 (u : Value) (hb : Below W.heap.size W w1) (hu : Tl w1 u [[1, 3]]) => after_any _ u Z.LA [[1, 3]] w1 (Kl.below (unhide HZ) hb) hu true ⟨fun _ => Z.readyLA, fun _ => rfl⟩
  have CFo := fun w1 (hb : Below W.heap.size W w1) => force_any _ Z.LA 2 w1 (Kl.below (unhide HZ) hb) (by omega) true true ⟨fun _ => Z.readyLA, fun _ => rfl⟩ ⟨fun _ => by omega, fun _ => rfl⟩
  have e1 : (if (true && true) = true then Z.prop true Z.LA (Z.tierG (2 : Int).toNat 9 Z.LA) else []) = [[1, 3]] := by
    have := Z.prLA
    rw [Z.pr, Z.grps, if_neg (by simp)] at this
    exact this
  have e2 : (if (true && true) = true then Z.prop true Z.LA (Z.runs (2 : Int).toNat 9 Z.LA) else []) = [] := by
    have := Z.prLogs
    rw [Z.pr, Z.grps, if_pos rfl] at this
    exact this
  have e3 : (if (true && true) = true then Z.prop false Z.LA (Z.forceG 2 Z.LA) else []) = [[1, 2]] := Z.forceLA
  rw [e1] at CTi
  rw [e2] at CLo
  rw [e3] at CFo
  rw [Z.afterLA] at CAf
  clear e1 e2 e3 Z0 hW hW0 hs0
  go_enter Try.func9, Try.ntmps9
  go_wp2_with fail
  rw [← unhide HW]
  refine (CTi _ (Below.refl _ _)).mono ?_
  rintro e w1 ⟨v1, rfl, T1, B1⟩
  have t0 := cell_keep t0 B1
  have t1 := cell_keep t1 B1
  obtain ⟨a1, c1, rfl, -⟩ := T1.at
  have HT1 := hide T1
  clear T1
  go_wp2_with fail
  refine (CUn _ B1).mono ?_
  rintro e w2 ⟨v2, A2, n2, rfl, Z2, -, -, hun, B2⟩
  rw [show (2 : Int).toNat = 2 from rfl, Z.untilLA] at hun
  obtain ⟨rfl, rfl⟩ := Prod.mk.inj hun
  have BB2 := below_trans' B1 B2
  have t0 := cell_keep t0 B2
  have t1 := cell_keep t1 B2
  obtain ⟨a2, c2, rfl, -⟩ := Zl.open Z2
  have HZ2 := hide Z2
  have HT2 := hide ((unhide HT1).below B2)
  clear hun Z2 B1
  have TL : Tl ((w2.alloc (.cells #[.int .i64 1, .int .i64 3] 3)).alloc (.cells #[.slice (some ⟨w2.heap.size, 0, none⟩) 2 2] 47)) (.slice (some ⟨w2.heap.size + 1, 0, none⟩) 1 1) [[1, 3]] := by
    have := tlit1 (w2.alloc (.cells #[.int .i64 1, .int .i64 3] 3)) (some ⟨w2.heap.size, 0, none⟩, 2, 2) [1, 3] (ilit w2 _ [1, 3] 2 rfl rfl (by omega))
    simpa [sv] using this
  have BL : Below w2.heap.size w2 ((w2.alloc (.cells #[.int .i64 1, .int .i64 3] 3)).alloc (.cells #[.slice (some ⟨w2.heap.size, 0, none⟩) 2 2] 47)) := below_all (below_alloc _ _) _
  have CT := ztables_any _ _ [[1, 3]] _ ((unhide HT2).below BL) TL
  obtain ⟨W3, hW3⟩ : ∃ W3, W3 = (w2.alloc (.cells #[.int .i64 1, .int .i64 3] 3)).alloc (.cells #[.slice (some ⟨w2.heap.size, 0, none⟩) 2 2] 47) := ⟨_, rfl⟩
  rw [← hW3] at CT BL
  have BB3 := below_trans' BB2 BL
  have t0 := cell_keep t0 BL
  have t1 := cell_keep t1 BL
  have HT3 := hide ((unhide HT2).below BL)
  have HZ3 := hide (Kl.below (unhide HZ2) BL)
  have HW3 := hide hW3
  clear hW3 TL BL BB2 B2
  go_wp2_with fail
  rw [← unhide HW3]
  refine CT.mono ?_
  rintro e w4 ⟨rfl, B4⟩
  have BB4 := below_trans' BB3 B4
  have t0 := cell_keep t0 B4
  have t1 := cell_keep t1 B4
  have HT4 := hide ((unhide HT3).below B4)
  have HZ4 := hide (Kl.below (unhide HZ3) B4)
  clear CT B4 BB3
  go_wp2_with fail
  refine (CLo _ BB4).mono ?_
  rintro e w5 ⟨v5, rfl, T5, B5⟩
  have BB5 := below_trans' BB4 B5
  obtain ⟨a5, c5, rfl, -⟩ := T5.at
  have HT5 := hide ((unhide HT4).below B5)
  have HZ5 := hide (Kl.below (unhide HZ4) B5)
  clear T5 B5 BB4 CLo
  go_wp2_with fail
  refine (CMa _ BB5).mono ?_
  rintro e w6 ⟨rfl, B6⟩
  have BB6 := below_trans' BB5 B6
  have HT6 := hide ((unhide HT5).below B6)
  have HZ6 := hide (Kl.below (unhide HZ5) B6)
  clear B6 BB5 CMa
  go_wp2_with fail
  refine (CAf _ _ BB6 (unhide HT6)).mono ?_
  rintro e w7 ⟨v7, rfl, Z7, B7⟩
  have BB7 := below_trans' BB6 B7
  have HZ7 := hide (Kl.below (unhide HZ6) B7)
  obtain ⟨a7, c7, rfl, -⟩ := Zl.open Z7
  have ZL : Zl (w7.alloc (.cells #[.int .i64 4, .int .i64 2, .int .i64 0, .bool false, .int .i64 2, .int .i64 5, .int .i64 0, .bool false] 36)) (.slice (some ⟨w7.heap.size, 0, none⟩) 2 2) Z.XA := zlit w7 _ Z.XA 2 rfl rfl (by omega)
  have BL := below_alloc w7 (.cells #[.int .i64 4, .int .i64 2, .int .i64 0, .bool false, .int .i64 2, .int .i64 5, .int .i64 0, .bool false] 36)
  have CS := rsame_any _ _ Z.XA _ (Kl.below Z7 BL) ZL
  have BB8 := below_trans' BB7 BL
  have HZ8 := hide (Kl.below (unhide HZ7) BL)
  clear B7 BB6 CAf Z7 ZL
  go_wp2_with fail
  refine CS.mono ?_
  rintro e w9 ⟨rfl, B9⟩
  have BB9 := below_trans' BB8 B9
  have HZ9 := hide (Kl.below (unhide HZ8) B9)
  clear B9 BB8 CS BL BB7
  have ZL : Zl (w9.alloc (.cells #[.int .i64 4, .int .i64 2, .int .i64 0, .bool false, .int .i64 2, .int .i64 5, .int .i64 0, .bool false] 36)) (.slice (some ⟨w9.heap.size, 0, none⟩) 2 2) Z.XA := zlit w9 _ Z.XA 2 rfl rfl (by omega)
  have BL := below_alloc w9 (.cells #[.int .i64 4, .int .i64 2, .int .i64 0, .bool false, .int .i64 2, .int .i64 5, .int .i64 0, .bool false] 36)
  have CS := rsame_any _ _ Z.XA _ (Kl.below (unhide HZ9) BL) ZL
  have BB10 := below_trans' BB9 BL
  clear BB9 ZL
  go_wp2_with fail
  refine CS.mono ?_
  rintro e w11 ⟨rfl, B11⟩
  have BB11 := below_trans' BB10 B11
  clear B11 BB10 CS BL
  go_wp2_with fail
  refine (CFo _ BB11).mono ?_
  rintro e w12 ⟨v12, rfl, T12, B12⟩
  have BB12 := below_trans' BB11 B12
  obtain ⟨a12, c12, rfl, -⟩ := T12.at
  have TL : Tl ((w12.alloc (.cells #[.int .i64 1, .int .i64 2] 3)).alloc (.cells #[.slice (some ⟨w12.heap.size, 0, none⟩) 2 2] 47)) (.slice (some ⟨w12.heap.size + 1, 0, none⟩) 1 1) [[1, 2]] := by
    have := tlit1 (w12.alloc (.cells #[.int .i64 1, .int .i64 2] 3)) (some ⟨w12.heap.size, 0, none⟩, 2, 2) [1, 2] (ilit w12 _ [1, 2] 2 rfl rfl (by omega))
    simpa [sv] using this
  have BL : Below w12.heap.size w12 ((w12.alloc (.cells #[.int .i64 1, .int .i64 2] 3)).alloc (.cells #[.slice (some ⟨w12.heap.size, 0, none⟩) 2 2] 47)) := below_all (below_alloc _ _) _
  have CT := ztables_any _ _ [[1, 2]] _ (T12.below BL) TL
  have BB13 := below_trans' BB12 BL
  clear B12 BB11 CFo TL T12
  go_wp2_with fail
  refine CT.mono ?_
  rintro e w14 ⟨rfl, B14⟩
  have BB14 := below_trans' (below_trans' BW BB13) B14
  clear CT B14 BB13 BL
  go_wp2
  go_ret
  exact ⟨rfl, BB14⟩
end Go.Proofs.Ytfniphaehggcgaa
