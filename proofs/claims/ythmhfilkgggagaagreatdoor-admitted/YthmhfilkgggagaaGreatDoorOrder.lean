/-
  Plain mathematics: the order of the canonical text is a strict order, whole on subjects; nothing of the program is walked here.
-/
import Derived.Test.YthmhfilkgggagaaGreatDoorCompare
import Derived.Shelf.SlSortCmp.NoneTotal
namespace Go.Proofs.YthmhfilkgggagaaGreatDoor
open Go.RowKit Go.Sort

theorem less_trans : ∀ a b c : List UInt8, Op.bytesLess a b = true → Op.bytesLess b c = true → Op.bytesLess a c = true
  | _, _, [], _, h => by cases ‹List UInt8› <;> simp [Op.bytesLess] at h
  | _, [], _ :: _, h, _ => by cases ‹List UInt8› <;> simp [Op.bytesLess] at h
  | [], _ :: _, _ :: _, _, _ => by simp [Op.bytesLess]
  | x :: r, y :: t, z :: u, h1, h2 => by
    simp only [Op.bytesLess, Bool.or_eq_true, decide_eq_true_eq, Bool.and_eq_true, beq_iff_eq] at h1 h2 ⊢
    rcases h1 with h1 | ⟨e1, h1⟩
    · rcases h2 with h2 | ⟨e2, h2⟩
      · exact .inl (UInt8.lt_trans h1 h2)
      · exact .inl (e2 ▸ h1)
    · rcases h2 with h2 | ⟨e2, h2⟩
      · exact .inl (e1 ▸ h2)
      · exact .inr ⟨e1.trans e2, less_trans r t u h1 h2⟩

/-- 'stands ahead of' in the canonical text. -/
def ltS (a b : Sl.Subj) : Prop :=
  a.kind < b.kind ∨ (a.kind = b.kind ∧ (Op.bytesLess a.org b.org = true ∨ (a.org = b.org ∧ (Op.bytesLess a.ten b.ten = true ∨ (a.ten = b.ten ∧ a.cls < b.cls)))))

theorem cmpI_cases (x y : Nat) : (cmpI x y = -1 ∧ x < y) ∨ (cmpI x y = 0 ∧ x = y) ∨ (cmpI x y = 1 ∧ y < x) := by
  unfold cmpI
  by_cases h : (x : Int) < y
  · exact .inl ⟨if_pos h, by omega⟩
  · by_cases h2 : (y : Int) < x
    · exact .inr (.inr ⟨by rw [if_neg h, if_pos h2], by omega⟩)
    · exact .inr (.inl ⟨by rw [if_neg h, if_neg h2], by omega⟩)

theorem cmpB_cases (x y : List UInt8) : (cmpB x y = -1 ∧ Op.bytesLess x y = true) ∨ (cmpB x y = 0 ∧ x = y) ∨ (cmpB x y = 1 ∧ Op.bytesLess y x = true) := by
  unfold cmpB
  cases h : Op.bytesLess x y with
  | true => exact .inl ⟨by simp, rfl⟩
  | false =>
    cases h2 : Op.bytesLess y x with
    | true => exact .inr (.inr ⟨by simp, rfl⟩)
    | false => exact .inr (.inl ⟨by simp, less_total x y h h2⟩)

theorem less_asymm {x y : List UInt8} (h : Op.bytesLess x y = true) : Op.bytesLess y x = false := by
  cases e : Op.bytesLess y x with
  | false => rfl
  | true => have := less_trans _ _ _ h e; rw [less_irrefl] at this; cases this

theorem less_ne {x y : List UInt8} (h : Op.bytesLess x y = true) : x ≠ y := by
  intro e; subst e; rw [less_irrefl] at h; cases h

theorem cmpSubj_lt (a b : Sl.Subj) : cmpSubj a b < 0 ↔ ltS a b := by
  unfold cmpSubj ltS
  rcases cmpI_cases a.kind b.kind with ⟨h1, g1⟩ | ⟨h1, g1⟩ | ⟨h1, g1⟩
  · rw [h1]; simp [orI]; exact .inl g1
  · rw [h1]
    rcases cmpB_cases a.org b.org with ⟨h2, g2⟩ | ⟨h2, g2⟩ | ⟨h2, g2⟩
    · rw [h2]; simp [orI]; exact .inr ⟨g1, .inl g2⟩
    · rw [h2]
      rcases cmpB_cases a.ten b.ten with ⟨h3, g3⟩ | ⟨h3, g3⟩ | ⟨h3, g3⟩
      · rw [h3]; simp [orI]; exact .inr ⟨g1, .inr ⟨g2, .inl g3⟩⟩
      · rw [h3]
        rcases cmpI_cases a.cls b.cls with ⟨h4, g4⟩ | ⟨h4, g4⟩ | ⟨h4, g4⟩
        · rw [h4]; simp [orI]; exact .inr ⟨g1, .inr ⟨g2, .inr ⟨g3, g4⟩⟩⟩
        · rw [h4]; simp [orI, g1, g2, g3, g4, less_irrefl]
        · rw [h4]; simp [orI, g1, g2, g3, less_irrefl]; omega
      · rw [h3]; simp [orI, g1, g2, less_irrefl, less_asymm g3, (less_ne g3).symm]
    · rw [h2]; simp [orI, g1, less_asymm g2, (less_ne g2).symm]
  · rw [h1]; simp [orI]; omega

theorem ltS_irrefl (a : Sl.Subj) : ¬ ltS a a := by
  unfold ltS; simp [less_irrefl]

theorem ltS_trans {a b c : Sl.Subj} (h1 : ltS a b) (h2 : ltS b c) : ltS a c := by
  unfold ltS at *
  rcases h1 with h1 | ⟨e1, h1⟩
  · rcases h2 with h2 | ⟨e2, h2⟩
    · exact .inl (by omega)
    · exact .inl (by omega)
  · rcases h2 with h2 | ⟨e2, h2⟩
    · exact .inl (by omega)
    · refine .inr ⟨by omega, ?_⟩
      rcases h1 with h1 | ⟨f1, h1⟩
      · rcases h2 with h2 | ⟨f2, h2⟩
        · exact .inl (less_trans _ _ _ h1 h2)
        · exact .inl (f2 ▸ h1)
      · rcases h2 with h2 | ⟨f2, h2⟩
        · exact .inl (f1 ▸ h2)
        · refine .inr ⟨f1.trans f2, ?_⟩
          rcases h1 with h1 | ⟨g1, h1⟩
          · rcases h2 with h2 | ⟨g2, h2⟩
            · exact .inl (less_trans _ _ _ h1 h2)
            · exact .inl (g2 ▸ h1)
          · rcases h2 with h2 | ⟨g2, h2⟩
            · exact .inl (g1 ▸ h2)
            · exact .inr ⟨g1.trans g2, by omega⟩

theorem ltS_total (a b : Sl.Subj) : ltS a b ∨ a = b ∨ ltS b a := by
  obtain ⟨k1, c1, o1, t1⟩ := a
  obtain ⟨k2, c2, o2, t2⟩ := b
  unfold ltS
  simp only []
  rcases Nat.lt_trichotomy k1 k2 with h | h | h
  · exact .inl (.inl h)
  · rcases cmpB_cases o1 o2 with ⟨_, g⟩ | ⟨_, g⟩ | ⟨_, g⟩
    · exact .inl (.inr ⟨h, .inl g⟩)
    · rcases cmpB_cases t1 t2 with ⟨_, g2⟩ | ⟨_, g2⟩ | ⟨_, g2⟩
      · exact .inl (.inr ⟨h, .inr ⟨g, .inl g2⟩⟩)
      · rcases Nat.lt_trichotomy c1 c2 with h3 | h3 | h3
        · exact .inl (.inr ⟨h, .inr ⟨g, .inr ⟨g2, h3⟩⟩⟩)
        · subst h g g2 h3; exact .inr (.inl rfl)
        · exact .inr (.inr (.inr ⟨h.symm, .inr ⟨g.symm, .inr ⟨g2.symm, h3⟩⟩⟩))
      · exact .inr (.inr (.inr ⟨h.symm, .inr ⟨g.symm, .inl g2⟩⟩))
    · exact .inr (.inr (.inr ⟨h.symm, .inl g⟩))
  · exact .inr (.inr (.inl h))

theorem ltOf_iff (a b : Sl.Subj) : ltOf cmpSubj a b = true ↔ ltS a b := by unfold ltOf; rw [decide_eq_true_iff]; exact cmpSubj_lt a b
theorem ltOf_not (a b : Sl.Subj) : ltOf cmpSubj a b = false ↔ ¬ ltS a b := by rw [← ltOf_iff]; simp

theorem swo_subj : SWO (ltOf cmpSubj) where
  irrefl x := (ltOf_not _ _).2 (ltS_irrefl x)
  trans x y z h1 h2 := (ltOf_iff _ _).2 (ltS_trans ((ltOf_iff _ _).1 h1) ((ltOf_iff _ _).1 h2))
  ntrans x y z h1 h2 := by
    rw [ltOf_not] at *
    intro h
    rcases ltS_total x y with g | g | g
    · exact h1 g
    · subst g; exact h2 h
    · exact h2 (ltS_trans g h)

theorem tot_subj (x y : Sl.Subj) (h1 : ltOf cmpSubj x y = false) (h2 : ltOf cmpSubj y x = false) : x = y := by
  rw [ltOf_not] at *
  rcases ltS_total x y with g | g | g
  · exact absurd g h1
  · exact g
  · exact absurd g h2

def leS (x y : Sl.Subj) : Bool := !(ltOf cmpSubj) y x
def sortS (l : List Sl.Subj) : List Sl.Subj := l.mergeSort leS

theorem leS_iff (x y : Sl.Subj) : leS x y = true ↔ ¬ ltS y x := by unfold leS; rw [Bool.not_eq_true']; exact ltOf_not y x

theorem leS_trans (a b c : Sl.Subj) (h1 : leS a b = true) (h2 : leS b c = true) : leS a c = true := by
  rw [leS_iff] at *
  intro h
  rcases ltS_total a b with g | g | g
  · exact h2 (ltS_trans h g)
  · subst g; exact h2 h
  · exact h1 g

theorem leS_total (a b : Sl.Subj) : (leS a b || leS b a) = true := by
  rw [Bool.or_eq_true, leS_iff, leS_iff]
  by_cases h : ltS b a
  · exact .inr (fun g => ltS_irrefl _ (ltS_trans h g))
  · exact .inl h

theorem sortS_perm (l : List Sl.Subj) : (sortS l).Perm l := List.mergeSort_perm l leS

theorem sortS_of_perm {l l' : List Sl.Subj} (h : l.Perm l') : sortS l = sortS l' := by
  refine List.Perm.eq_of_pairwise (le := fun a b => leS a b = true) (fun a b _ _ h1 h2 => ?_) (List.pairwise_mergeSort leS_trans leS_total l) (List.pairwise_mergeSort leS_trans leS_total l') (((List.mergeSort_perm l leS).trans h).trans (List.mergeSort_perm l' leS).symm)
  rw [leS_iff] at h1 h2
  rcases ltS_total a b with g | g | g
  · exact absurd g h2
  · exact g
  · exact absurd g h1

/-- What is sorted already stays. -/
theorem sortS_sorted {l l' : List Sl.Subj} (hp : l'.Perm l) (h : l'.Pairwise ltS) : sortS l = l' := by
  rw [← sortS_of_perm hp]
  exact List.mergeSort_of_pairwise (h.imp fun {a b} g => (leS_iff a b).2 (fun g2 => ltS_irrefl _ (ltS_trans g g2)))

end Go.Proofs.YthmhfilkgggagaaGreatDoor
