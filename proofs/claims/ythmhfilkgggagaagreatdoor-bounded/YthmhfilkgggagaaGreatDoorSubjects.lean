/-
  subjects: what a table speaks of, sorted as the canonical text is.
-/
import Derived.Test.YthmhfilkgggagaaGreatDoorOrder
import Derived.Test.YthmhfilkgggagaaGreatDoorCanon
import Derived.Test.YthmhfilkgggagaaGreatDoorSort
import Derived.Maps.RangeWalk
import Derived.Sort.OwnSorted
namespace Go.Proofs.YthmhfilkgggagaaGreatDoor
open Go.RowKit Go.Maps Go.Sort

def subjCells (s : Sl.Subj) : List Value := [.int .i64 s.kind, .int .i64 s.cls, .string ⟨s.org.toArray⟩, .string ⟨s.ten.toArray⟩]
def subjAll (l : List Sl.Subj) : List Value := l.flatMap subjCells

theorem has_tabD_any (l : List (Sl.Subj × Sl.Lim)) (k : Lit) : Maps.has (tabD l) k = true ↔ ∃ x ∈ l, kl x.1 = k := by
  refine snoc_ind (p := fun l => Maps.has (tabD l) k = true ↔ ∃ x ∈ l, kl x.1 = k) ?_ ?_ l
  · simp [tabD, Maps.has]
  · intro l x ih
    rw [tabD_snoc]
    by_cases e : k = kl x.1
    · subst e
      rw [has_put_same (tabD_isMap l) (kl_key _)]
      simp
    · rw [has_put_other e, ih]
      constructor
      · rintro ⟨y, hy, h⟩; exact ⟨y, by simp [hy], h⟩
      · rintro ⟨y, hy, h⟩
        rcases List.mem_append.1 hy with hy | hy
        · exact ⟨y, hy, h⟩
        · simp at hy; subst hy; exact absurd h.symm e

/-- Which are collected, which are still to come. -/
structure Coll (l : List (Sl.Subj × Sl.Lim)) (left : Lit → Bool) (acc : List Sl.Subj) : Prop where
  rest : ∃ r, (acc ++ r).Perm (l.map (·.1)) ∧ ∀ k, left k = true ↔ ∃ s ∈ r, kl s = k

theorem Coll.start (l : List (Sl.Subj × Sl.Lim)) : Coll l (Maps.has (tabD l)) [] :=
  ⟨l.map (·.1), by simp, fun k => by rw [has_tabD_any]; simp⟩

theorem nodup_subj {l : List (Sl.Subj × Sl.Lim)} (h : OkL l) : (l.map (·.1)).Nodup := by
  rw [List.nodup_iff_pairwise_ne, List.pairwise_map]; exact h.2

theorem Coll.step {l : List (Sl.Subj × Sl.Lim)} {left : Lit → Bool} {acc : List Sl.Subj} (hl : OkL l) (h : Coll l left acc) {k : Lit} (hk : left k = true) :
    ∃ x ∈ l, kl x.1 = k ∧ Coll l (fun z => left z && !z.sameKey k) (acc ++ [x.1]) := by
  obtain ⟨r, hp, hr⟩ := h
  obtain ⟨s, hs, rfl⟩ := (hr k).1 hk
  have hms : s ∈ l.map (·.1) := hp.mem_iff.1 (by simp [hs])
  obtain ⟨x, hx, rfl⟩ := List.mem_map.1 hms
  refine ⟨x, hx, rfl, ?_⟩
  obtain ⟨r1, r2, rfl⟩ := List.append_of_mem hs
  have hnd : (acc ++ (r1 ++ x.1 :: r2)).Nodup := hp.nodup_iff.2 (nodup_subj hl)
  have hok : ∀ t ∈ acc ++ (r1 ++ x.1 :: r2), OkS t := fun t ht => by
    obtain ⟨y, hy, rfl⟩ := List.mem_map.1 (hp.mem_iff.1 ht)
    exact hl.1 y hy
  refine ⟨r1 ++ r2, ?_, ?_⟩
  · refine List.Perm.trans ?_ hp
    rw [List.append_assoc]
    refine List.Perm.append_left _ ?_
    show (x.1 :: (r1 ++ r2)).Perm _
    exact List.perm_middle.symm
  · intro k'
    have hx1 := hok x.1 (by simp)
    have hnr : x.1 ∉ r1 ++ r2 := by
      have h1 : (r1 ++ x.1 :: r2).Nodup := (List.nodup_append.1 hnd).2.1
      have h2 := (List.perm_middle (a := x.1) (l₁ := r1) (l₂ := r2)).nodup_iff.1 h1
      exact (List.nodup_cons.1 h2).1
    rw [Bool.and_eq_true, hr k', Bool.not_eq_true']
    constructor
    · rintro ⟨⟨t, ht, rfl⟩, hne⟩
      refine ⟨t, ?_, rfl⟩
      have : t ≠ x.1 := by
        intro e; subst e
        rw [WideAt.sameKey_self (kl_key _)] at hne; cases hne
      simp at ht ⊢
      rcases ht with ht | ht | ht
      · exact .inl ht
      · exact absurd ht this
      · exact .inr ht
    · rintro ⟨t, ht, rfl⟩
      have hto := hok t (by simp at ht ⊢; rcases ht with h | h; exact .inr (.inl h); exact .inr (.inr (.inr h)))
      refine ⟨⟨t, by simp at ht ⊢; rcases ht with h | h; exact .inl h; exact .inr (.inr h), rfl⟩, ?_⟩
      exact sameKey_ne (fun e => hnr ((kl_inj hto hx1 e) ▸ ht))

theorem Coll.done {l : List (Sl.Subj × Sl.Lim)} {left : Lit → Bool} {acc : List Sl.Subj} (h : Coll l left acc) (h0 : ∀ k, left k = false) : acc.Perm (l.map (·.1)) := by
  obtain ⟨r, hp, hr⟩ := h
  cases r with
  | nil => simpa using hp
  | cons s r =>
    have := (hr (kl s)).2 ⟨s, by simp, rfl⟩
    rw [h0] at this; cases this

theorem Coll.len {l : List (Sl.Subj × Sl.Lim)} {left : Lit → Bool} {acc : List Sl.Subj} (h : Coll l left acc) : acc.length ≤ l.length := by
  obtain ⟨r, hp, _⟩ := h
  have := hp.length_eq
  simp at this; omega

theorem size_tabD (l : List (Sl.Subj × Sl.Lim)) : Maps.size (tabD l) ≤ l.length := by
  refine snoc_ind (p := fun l => Tidy (tabD l) ∧ Maps.size (tabD l) ≤ l.length) ⟨tidy_empty, by simp [tabD, Maps.size]⟩ ?_ l |>.2
  intro l x ⟨ht, ih⟩
  rw [tabD_snoc]
  refine ⟨ht.put (kl_key _) _, ?_⟩
  rw [size_put ht]
  split <;> simp <;> omega

theorem info_subj : (Tryz.prog.info? 151).map (fun i => (i.zero, i.size, i.bytes)) = some (some (.agg #[.int .i64 0, .int .i64 0, .string ⟨#[]⟩, .string ⟨#[]⟩]), 4, 48) := by kernel_rfl

theorem compare_enters : ∀ args w, (callFunc 150 args).run Tryz.prog w = .ok (.enter 150 args) w := enters_of Tryz.func150 (by kernel_rfl) rfl

theorem subjV_cells (s : Sl.Subj) : subjV s = .agg (subjCells s).toArray := rfl

theorem compare_lays [Inhabited Sl.Subj] (blk off size : Nat) (w : World) : CmpLays Tryz.prog 150 #[] subjCells 4 cmpSubj blk off size w :=
  fun _ _ _ _ x y => compare_any x y _

theorem flat_at (l : List Sl.Subj) : ∀ (i : Nat) (hi : i < l.length) (c : Nat), c < 4 → (subjAll l)[i * 4 + c]? = some (subjCells l[i])[c]! := by
  induction l with
  | nil => intro i hi; simp at hi
  | cons a r ih =>
    intro i hi c hc
    have e : subjAll (a :: r) = subjCells a ++ subjAll r := rfl
    cases i with
    | zero =>
      rw [e, List.getElem?_append_left (by simp [subjCells]; omega)]
      match c, hc with
      | 0, _ => rfl
      | 1, _ => rfl
      | 2, _ => rfl
      | 3, _ => rfl
    | succ i =>
      rw [e, List.getElem?_append_right (by simp [subjCells]; omega)]
      have e2 : (i + 1) * 4 + c - (subjCells a).length = i * 4 + c := by simp [subjCells]; omega
      rw [e2, ih i (by simpa using hi) c hc]
      simp

theorem subjAll_len (l : List Sl.Subj) : (subjAll l).length = l.length * 4 := by
  induction l with
  | nil => rfl
  | cons a r ih => have e : subjAll (a :: r) = subjCells a ++ subjAll r := rfl; rw [e, List.length_append, ih]; simp [subjCells]; omega

theorem holdsK_of [Inhabited Sl.Subj] (w : World) (g : Nat) (cur : Array Value) (e : TypeId) (l : List Sl.Subj) (hb : w.heap[g]? = some (.cells cur e (0, 0))) (ht : cur.toList.take (l.length * 4) = subjAll l) : HoldsK subjCells 4 w g 0 l.toArray := by
  intro j hj
  rw [size_flatK] at hj
  have hj' : j < l.length * 4 := by simpa using hj
  refine ⟨?_, by simp [World.frozen?, hb]⟩
  rw [get_flatK _ _ _ _ hj]
  have hd : j / 4 < l.length := by omega
  have h1 := flat_at l (j / 4) hd (j % 4) (by omega)
  have e1 : j / 4 * 4 + j % 4 = j := by omega
  rw [e1, ← ht, List.getElem?_take_of_lt hj'] at h1
  have ea : l.toArray[j / 4]! = l[j / 4] := by
    rw [getElem!_pos l.toArray (j / 4) (by simpa using hd)]
    simp
  rw [ea, Nat.zero_add]
  simp only [World.cell?, hb, id]
  rw [← Array.getElem?_toList]; exact h1

/-- A list of subjects in memory, at block g. -/
def SubjsAt (w : World) (g : Nat) (l : List Sl.Subj) : Prop := ∀ i (hi : i < l.length) (c : Nat), c < 4 → w.cell? ⟨g, i * 4 + c, none⟩ = some (subjCells l[i])[c]!

theorem subjs_sorted [Inhabited Sl.Subj] (w : World) (g n : Nat) (os : Array Obj) (l l' : List Sl.Subj) (hH : HoldsK subjCells 4 w g 0 l.toArray) (hg : g < w.heap.size) (hl : l'.length = l.length) :
    SubjsAt (sortWorldK subjCells 4 w g 0 n l'.toArray os) g l' := by
  intro i hi c hc
  have h1 : HoldsK subjCells 4 (putRowK subjCells 4 (Sort.ahead w n) g 0 l'.toArray) g 0 l'.toArray := holdsK_putRowK (enc := subjCells) (k := 4) (Sort.ahead w n) g 0 l.toArray l'.toArray hH (by simp [hl])
  have h2 := holdsK_grow (enc := subjCells) (k := 4) (putRowK subjCells 4 (Sort.ahead w n) g 0 l'.toArray) os g 0 l'.toArray (by simpa [putRowK, putRow, mapBlock, Sort.ahead] using hg) h1
  have h3 := (h2.cell (i := i) (c := c) (by simpa using hi) hc).1
  rw [Nat.zero_add] at h3
  rw [show sortWorldK subjCells 4 w g 0 n l'.toArray os = grow (putRowK subjCells 4 (Sort.ahead w n) g 0 l'.toArray) os from rfl, h3]
  have ea : l'.toArray[i]! = l'[i] := by
    rw [getElem!_pos l'.toArray i (by simpa using hi)]
    simp
  rw [ea]

theorem grown_sortedK [Inhabited Sl.Subj] (w : World) (g n : Nat) (os : Array Obj) (d : Array Sl.Subj) : w.grownBy (sortWorldK subjCells 4 w g 0 n d os) (some g) := by
  refine ⟨rfl, rfl, rfl, by simp [sortWorldK, putRowK, putRow, mapBlock, Sort.ahead], fun k hk hne => ?_⟩
  have : g ≠ k := fun e => hne (by rw [e])
  show (grow _ os).heap[k]? = _
  unfold grow
  rw [Array.getElem?_append_left (by simpa [putRowK, putRow, mapBlock, Sort.ahead] using hk)]
  simp [putRowK, putRow, mapBlock, Sort.ahead, Array.getElem?_modify, this]

end Go.Proofs.YthmhfilkgggagaaGreatDoor
