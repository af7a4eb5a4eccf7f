/-
  Apart: what is plain of it.
-/
import Derived.Test.YthmhfilkgggagaaGreatDoorKpA
namespace Go.Proofs.YthmhfilkgggagaaGreatDoor
open Go.RowKit Go.Maps Go.Sort

theorem orgW_inj {a b : Nat} (ha : a < 2) (hb : b < 2) (h : orgW a = orgW b) : a = b := by
  have : ∀ a b : Fin 2, orgW a.val = orgW b.val → a = b := by decide
  exact congrArg Fin.val (this ⟨a, ha⟩ ⟨b, hb⟩ h)

theorem tenW_inj {a b : Nat} (ha : a < 2) (hb : b < 2) (h : tenW a = tenW b) : a = b := by
  have : ∀ a b : Fin 2, tenW a.val = tenW b.val → a = b := by decide
  exact congrArg Fin.val (this ⟨a, ha⟩ ⟨b, hb⟩ h)

/-- The levels behind a first request. -/
theorem two_put (a b : Kb) (h : b ≠ a) (v : Nat) : putV (putV [] a v) b v = [(a, v), (b, v)] := by
  have e : (a == b) = false := by rw [beq_eq_false_iff_ne]; exact fun e => h e.symm
  simp [putV, e]

theorem levOf_two (a b q : Kb) (v : Nat) : levOf [(a, v), (b, v)] q = if q = a ∨ q = b then v else 0 := by
  unfold levOf
  by_cases h1 : q = a
  · subst h1; simp
  · by_cases h2 : q = b
    · subst h2
      have : (a == q) = false := by rw [beq_eq_false_iff_ne]; exact fun e => h1 e.symm
      simp [this]
    · have e1 : (a == q) = false := by rw [beq_eq_false_iff_ne]; exact fun e => h1 e.symm
      have e2 : (b == q) = false := by rw [beq_eq_false_iff_ne]; exact fun e => h2 e.symm
      simp [e1, e2, h1, h2]

theorem fall_two (l : List (Sl.Subj × Sl.Lim)) (n : Nat) (a b : Kb) (v : Nat) : fallV l n [(a, v), (b, v)] = (if n * (limK l a).rate < v then [(a, v - n * (limK l a).rate)] else []) ++ (if n * (limK l b).rate < v then [(b, v - n * (limK l b).rate)] else []) := by
  unfold fallV
  by_cases h1 : n * (limK l a).rate < v <;> by_cases h2 : n * (limK l b).rate < v <;> simp [h1, h2]

/-- The time behind which both have run dry, but for one nanosecond. -/
theorem dry_two (l : List (Sl.Subj × Sl.Lim)) (a b : Kb) (r : Nat) (ha : 0 < (limK l a).rate) (hb : 0 < (limK l b).rate) (hr : r = if (limK l a).rate < (limK l b).rate then (limK l a).rate else (limK l b).rate) :
    (1 ≤ (fallV l ((1000000000 + r - 1) / r - 1) [(a, 1000000000), (b, 1000000000)]).length ∧ (fallV l ((1000000000 + r - 1) / r - 1) [(a, 1000000000), (b, 1000000000)]).length ≤ 2) ∧
    fallV l 1 (fallV l ((1000000000 + r - 1) / r - 1) [(a, 1000000000), (b, 1000000000)]) = [] := by
  have hr0 : 0 < r := by rw [hr]; split <;> omega
  obtain ⟨K, hK⟩ : ∃ K, K = (1000000000 + r - 1) / r := ⟨_, rfl⟩
  have hK1 : K * r ≤ 1000000000 + r - 1 := by rw [hK]; exact Nat.div_mul_le_self _ _
  have hK2 : 1000000000 + r - 1 < (K + 1) * r := by
    have h1 := Nat.div_add_mod (1000000000 + r - 1) r
    have h2 := Nat.mod_lt (1000000000 + r - 1) hr0
    rw [← hK] at h1
    rw [Nat.add_mul, Nat.one_mul, Nat.mul_comm K r]
    omega
  rw [← hK]
  have hKp : 1 ≤ K := by
    rcases Nat.eq_zero_or_pos K with h | h
    · rw [h] at hK2; simp at hK2; omega
    · exact h
  obtain ⟨J, rfl⟩ : ∃ J, K = J + 1 := ⟨K - 1, by omega⟩
  have e1 : J + 1 - 1 = J := by omega
  rw [e1]
  have hlow : J * r < 1000000000 := by rw [Nat.add_mul, Nat.one_mul] at hK1; omega
  have hhigh : 1000000000 ≤ (J + 1) * r := by rw [Nat.add_mul, Nat.one_mul] at hK2; omega
  have hra : r ≤ (limK l a).rate := by rw [hr]; split <;> omega
  have hrb : r ≤ (limK l b).rate := by rw [hr]; split <;> omega
  have h1 : (J + 1) * r ≤ (J + 1) * (limK l a).rate := Nat.mul_le_mul_left _ hra
  have h2 : (J + 1) * r ≤ (J + 1) * (limK l b).rate := Nat.mul_le_mul_left _ hrb
  have hone : J * (limK l a).rate < 1000000000 ∨ J * (limK l b).rate < 1000000000 := by
    by_cases h : (limK l a).rate < (limK l b).rate
    · rw [if_pos h] at hr; rw [hr] at hlow; exact .inl hlow
    · rw [if_neg h] at hr; rw [hr] at hlow; exact .inr hlow
  rw [Nat.add_mul (n := J) (m := 1) (k := (limK l a).rate), Nat.one_mul] at h1
  rw [Nat.add_mul (n := J) (m := 1) (k := (limK l b).rate), Nat.one_mul] at h2
  generalize (J + 1) * r = JR at *
  rw [fall_two]
  refine ⟨?_, ?_⟩
  · split <;> split <;> simp <;> omega
  · unfold fallV
    split <;> split <;> simp
    all_goals omega

end Go.Proofs.YthmhfilkgggagaaGreatDoor
