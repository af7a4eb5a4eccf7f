/-
  Plain: the lines of a plan, and what is read of them.
-/
import Derived.Test.YthmhfilkgggagaaGreatDoorParse2
namespace Go.Proofs.YthmhfilkgggagaaGreatDoor
open Go.RowKit Go.Maps Go.Sort

/-- What the limits of a plan speak of, by their place. -/
def subjAt (i : Nat) : Sl.Subj :=
  if i < 2 then ⟨0, i, [], []⟩ else if i < 4 then ⟨1, i - 2, [], []⟩ else if i < 8 then ⟨2, i % 2, orgW ((i - 4) / 2), []⟩ else ⟨3, i % 2, orgW ((i - 8) / 4), tenW ((i - 8) / 2 % 2)⟩

def places (p : Nat → Sl.Lim) : List Nat := (List.range 16).filter fun i => decide (0 < (p i).rate)
def entries (p : Nat → Sl.Lim) : List (Sl.Subj × Sl.Lim) := (places p).map fun i => (subjAt i, p i)

theorem places_mem {p : Nat → Sl.Lim} {i : Nat} : i ∈ places p ↔ i < 16 ∧ 0 < (p i).rate := by
  unfold places; simp

theorem okN_at (i : Nat) (hi : i < 16) : OkN (subjAt i) := by
  have key : ∀ s : Sl.Subj, (∀ w ∈ frontW s, (w ≠ [] ∧ ∀ x ∈ w, x ≠ 32 ∧ x ≠ 10) ∧ zw w = w) → Sl.subject (frontW s) = some s → Lib.hasPrefix ((frontW s).headD []) [35] = false → frontW s ≠ [] → (s.kind < 4 ∧ s.cls < 2 ∧ s.org.length ≤ 2000 ∧ s.ten.length ≤ 2000) → OkN s := by
    intro s h1 h2 h3 h4 h5
    refine ⟨h1, h2, ?_, h5⟩
    cases hf : frontW s with
    | nil => exact absurd hf h4
    | cons w r => rw [hf] at h3; exact ⟨w, r, rfl, h3⟩
  match i, hi with
  | 0, _ => exact key _ (by decide) rfl rfl (by decide) (by decide)
  | 1, _ => exact key _ (by decide) rfl rfl (by decide) (by decide)
  | 2, _ => exact key _ (by decide) rfl rfl (by decide) (by decide)
  | 3, _ => exact key _ (by decide) rfl rfl (by decide) (by decide)
  | 4, _ => exact key _ (by decide) rfl rfl (by decide) (by decide)
  | 5, _ => exact key _ (by decide) rfl rfl (by decide) (by decide)
  | 6, _ => exact key _ (by decide) rfl rfl (by decide) (by decide)
  | 7, _ => exact key _ (by decide) rfl rfl (by decide) (by decide)
  | 8, _ => exact key _ (by decide) rfl rfl (by decide) (by decide)
  | 9, _ => exact key _ (by decide) rfl rfl (by decide) (by decide)
  | 10, _ => exact key _ (by decide) rfl rfl (by decide) (by decide)
  | 11, _ => exact key _ (by decide) rfl rfl (by decide) (by decide)
  | 12, _ => exact key _ (by decide) rfl rfl (by decide) (by decide)
  | 13, _ => exact key _ (by decide) rfl rfl (by decide) (by decide)
  | 14, _ => exact key _ (by decide) rfl rfl (by decide) (by decide)
  | 15, _ => exact key _ (by decide) rfl rfl (by decide) (by decide)
  | n + 16, h => exact absurd h (by omega)

theorem sub_sorted : ((List.range 16).map subjAt).Pairwise fun a b => ltOf cmpSubj a b = true := by decide

theorem ent_sorted (p : Nat → Sl.Lim) : ((places p).map subjAt).Pairwise ltS := by
  have h1 : ((places p).map subjAt).Sublist ((List.range 16).map subjAt) := (List.filter_sublist).map subjAt
  exact (sub_sorted.sublist h1).imp fun {a b} h => (ltOf_iff a b).1 h

theorem ent_fst (p : Nat → Sl.Lim) : (entries p).map (·.1) = (places p).map subjAt := by simp [entries]

theorem ent_apart (p : Nat → Sl.Lim) : (entries p).Pairwise fun a b => a.1 ≠ b.1 := by
  have h := ent_sorted p
  rw [← ent_fst, List.pairwise_map] at h
  refine h.imp ?_
  intro a b g e
  rw [e] at g
  exact ltS_irrefl _ g

theorem subjAt_inj {i j : Nat} (hi : i < 16) (hj : j < 16) (h : subjAt i = subjAt j) : i = j := by
  have key : ∀ a b : Nat, a < b → b < 16 → ltS (subjAt a) (subjAt b) := by
    intro a b hab hb
    have h2 := List.pairwise_iff_getElem.1 sub_sorted a b (by simp; omega) (by simp; omega) hab
    simp at h2
    exact (ltOf_iff _ _).1 h2
  rcases Nat.lt_trichotomy i j with g | g | g
  · have := key i j g hj; rw [h] at this; exact absurd this (ltS_irrefl _)
  · exact g
  · have := key j i g hi; rw [h] at this; exact absurd this (ltS_irrefl _)

theorem look_has {l : List (Sl.Subj × Sl.Lim)} (hl : l.Pairwise fun a b => a.1 ≠ b.1) {s : Sl.Subj} {m : Sl.Lim} (h : (s, m) ∈ l) : look l s = some m := by
  induction l with
  | nil => simp at h
  | cons x r ih =>
    rw [List.pairwise_cons] at hl
    unfold look
    rw [List.find?_cons]
    by_cases e : Sl.sameS x.1 s = true
    · rw [e]
      have ex := (Sl.sameS_iff _ _).1 e
      rcases List.mem_cons.1 h with h | h
      · rw [← h]; rfl
      · exact absurd ex (hl.1 _ h)
    · have e' : Sl.sameS x.1 s = false := by simpa using e
      rw [e']
      rcases List.mem_cons.1 h with h | h
      · rw [← h] at e; exact absurd ((Sl.sameS_iff _ _).2 rfl) e
      · exact ih hl.2 h

/-- All that is told of a list that holds the lines of a plan, in whatever order. -/
structure Holds (p : Nat → Sl.Lim) (l : List (Sl.Subj × Sl.Lim)) : Prop where
  perm : l.Perm (entries p)

theorem Holds.apart {p : Nat → Sl.Lim} {l : List (Sl.Subj × Sl.Lim)} (h : Holds p l) : l.Pairwise fun a b => a.1 ≠ b.1 :=
  h.perm.symm.pairwise (ent_apart p) fun g e => g e.symm

theorem Holds.look {p : Nat → Sl.Lim} {l : List (Sl.Subj × Sl.Lim)} (h : Holds p l) {i : Nat} (hi : i < 16) : Go.Proofs.YthmhfilkgggagaaGreatDoor.look l (subjAt i) = if 0 < (p i).rate then some (p i) else none := by
  by_cases hr : 0 < (p i).rate
  · rw [if_pos hr]
    exact look_has h.apart (h.perm.mem_iff.2 (List.mem_map.2 ⟨i, places_mem.2 ⟨hi, hr⟩, rfl⟩))
  · rw [if_neg hr, look_none_iff]
    intro x hx e
    obtain ⟨j, hj, rfl⟩ := List.mem_map.1 (h.perm.mem_iff.1 hx)
    obtain ⟨hj1, hj2⟩ := places_mem.1 hj
    rw [subjAt_inj hj1 hi e] at hj2
    exact hr hj2

theorem Holds.none {p : Nat → Sl.Lim} {l : List (Sl.Subj × Sl.Lim)} (h : Holds p l) {s : Sl.Subj} (hs : ∀ i, i < 16 → subjAt i ≠ s) : Go.Proofs.YthmhfilkgggagaaGreatDoor.look l s = none := by
  rw [look_none_iff]
  intro x hx e
  obtain ⟨j, hj, rfl⟩ := List.mem_map.1 (h.perm.mem_iff.1 hx)
  exact hs j (places_mem.1 hj).1 e

/-- The text of a plan is the text of its lines. -/
def tx (p : Nat → Sl.Lim) (i : Nat) : List UInt8 := if 0 < (p i).rate then lineText (subjAt i) (p i) else []

theorem flat_filter (p : Nat → Sl.Lim) : ∀ l : List Nat, (l.filter fun i => decide (0 < (p i).rate)).flatMap (fun i => lineText (subjAt i) (p i)) = l.flatMap (tx p)
  | [] => rfl
  | i :: r => by
    have ih := flat_filter p r
    by_cases h : 0 < (p i).rate
    · rw [List.filter_cons_of_pos (by simpa using h), List.flatMap_cons, List.flatMap_cons, ih, tx, if_pos h]
    · rw [List.filter_cons_of_neg (by simpa using h), List.flatMap_cons, ih, tx, if_neg h]; rfl

theorem text_ent (p : Nat → Sl.Lim) : (places p).flatMap (fun i => lineText (subjAt i) (p i)) = (List.range 16).flatMap (tx p) := flat_filter p _

theorem txA_eq {p : Nat → Sl.Lim} (c : Nat) (hc : c < 2) (h : 0 < (p c).rate) : txA p c = tx p c := by
  unfold tx; rw [if_pos h, lineText_eq]
  match c, hc with
  | 0, _ => simp [txA, wordsT, lineB, lineW, frontW, subjAt, jn, defOrgW, Sl.defaultW, Sl.orgW]
  | 1, _ => simp [txA, wordsT, lineB, lineW, frontW, subjAt, jn, defOrgW, Sl.defaultW, Sl.orgW]

theorem txB_eq {p : Nat → Sl.Lim} (c : Nat) (hc : c < 2) (h : 0 < (p (2 + c)).rate) : txB p c = tx p (2 + c) := by
  unfold tx; rw [if_pos h, lineText_eq]
  match c, hc with
  | 0, _ => simp [txB, wordsT, lineB, lineW, frontW, subjAt, jn, defTenW, Sl.defaultW, Sl.tenantW]
  | 1, _ => simp [txB, wordsT, lineB, lineW, frontW, subjAt, jn, defTenW, Sl.defaultW, Sl.tenantW]

theorem txC_eq (p : Nat → Sl.Lim) (o c : Nat) (ho : o < 2) (hc : c < 2) : txC p o c = tx p (4 + 2 * o + c) := by
  unfold tx txC
  split
  · rw [lineText_eq]
    match o, c, ho, hc with
    | 0, 0, _, _ => simp [wordsT, lineB, lineW, frontW, subjAt, jn, Sl.orgW]
    | 0, 1, _, _ => simp [wordsT, lineB, lineW, frontW, subjAt, jn, Sl.orgW]
    | 1, 0, _, _ => simp [wordsT, lineB, lineW, frontW, subjAt, jn, Sl.orgW]
    | 1, 1, _, _ => simp [wordsT, lineB, lineW, frontW, subjAt, jn, Sl.orgW]
  · rfl

theorem txD_eq (p : Nat → Sl.Lim) (o t c : Nat) (ho : o < 2) (ht : t < 2) (hc : c < 2) : txD p o t c = tx p (8 + 4 * o + 2 * t + c) := by
  unfold tx txD
  split
  · rw [lineText_eq]
    match o, t, c, ho, ht, hc with
    | 0, 0, 0, _, _, _ => simp [wordsT, lineB, lineW, frontW, subjAt, jn, Sl.tenantW]
    | 0, 0, 1, _, _, _ => simp [wordsT, lineB, lineW, frontW, subjAt, jn, Sl.tenantW]
    | 0, 1, 0, _, _, _ => simp [wordsT, lineB, lineW, frontW, subjAt, jn, Sl.tenantW]
    | 0, 1, 1, _, _, _ => simp [wordsT, lineB, lineW, frontW, subjAt, jn, Sl.tenantW]
    | 1, 0, 0, _, _, _ => simp [wordsT, lineB, lineW, frontW, subjAt, jn, Sl.tenantW]
    | 1, 0, 1, _, _, _ => simp [wordsT, lineB, lineW, frontW, subjAt, jn, Sl.tenantW]
    | 1, 1, 0, _, _, _ => simp [wordsT, lineB, lineW, frontW, subjAt, jn, Sl.tenantW]
    | 1, 1, 1, _, _, _ => simp [wordsT, lineB, lineW, frontW, subjAt, jn, Sl.tenantW]
  · rfl

theorem text_plan {p : Nat → Sl.Lim} (h : OkP 2 p) : upD p 2 = (places p).flatMap (fun i => lineText (subjAt i) (p i)) := by
  rw [text_ent]
  have h0 := h.1 0 (by omega)
  have h1 := h.1 1 (by omega)
  have r2 : List.range 2 = [0, 1] := rfl
  have r16 : List.range 16 = [0, 1, 2, 3, 4, 5, 6, 7, 8, 9, 10, 11, 12, 13, 14, 15] := rfl
  simp only [upD, upC, upB, upA, rowC, rowD, rowE, r2, r16, List.flatMap_cons, List.flatMap_nil, List.append_nil]
  rw [txA_eq 0 (by omega) h0.1.1.1, txA_eq 1 (by omega) h1.1.1.1, txB_eq 0 (by omega) h0.2.1.1, txB_eq 1 (by omega) h1.2.1.1]
  rw [txC_eq p 0 0 (by omega) (by omega), txC_eq p 0 1 (by omega) (by omega), txC_eq p 1 0 (by omega) (by omega), txC_eq p 1 1 (by omega) (by omega)]
  rw [txD_eq p 0 0 0 (by omega) (by omega) (by omega), txD_eq p 0 0 1 (by omega) (by omega) (by omega), txD_eq p 0 1 0 (by omega) (by omega) (by omega), txD_eq p 0 1 1 (by omega) (by omega) (by omega), txD_eq p 1 0 0 (by omega) (by omega) (by omega), txD_eq p 1 0 1 (by omega) (by omega) (by omega), txD_eq p 1 1 0 (by omega) (by omega) (by omega), txD_eq p 1 1 1 (by omega) (by omega) (by omega)]
  simp only [List.append_assoc]

end Go.Proofs.YthmhfilkgggagaaGreatDoor
