/-
  The limit of a bucket: that of the line that speaks of it, or the default.
-/
import Derived.Test.YthmhfilkgggagaaGreatDoorAtomic
import Derived.Test.YthmhfilkgggagaaGreatDoorLev
namespace Go.Proofs.YthmhfilkgggagaaGreatDoor
open Go.RowKit Go.Maps Go.Sort

/-- The limit that a table sets for a bucket: an organisation's, if there is no tenant. -/
def limitS (l : List (Sl.Subj × Sl.Lim)) (c : Nat) (org ten : List UInt8) : Sl.Lim :=
  if ten = [] then (look l ⟨2, c, org, []⟩).getD ((look l ⟨0, c, [], []⟩).getD noLim) else (look l ⟨3, c, org, ten⟩).getD ((look l ⟨1, c, [], []⟩).getD noLim)

abbrev subjB (k c : Nat) (org ten : List UInt8) : Obj := .cells #[.int .i64 k, .int .i64 c, .string ⟨org.toArray⟩, .string ⟨ten.toArray⟩] 151

set_option maxRecDepth 100000 in
set_option maxHeartbeats 1000000 in
theorem tabLimit_org (l : List (Sl.Subj × Sl.Lim)) (tb mb n c : Nat) (org : List UInt8) (w : World) (hc : w.cell? ⟨tb, 0, none⟩ = some (.map (some mb))) (hown : w.ownsMap Tryz.prog 151 limR mb n (tabD l)) (hl : OkL l) (hcc : c < 2) (ho : org.length ≤ 2000) :
    Calls Tryz.prog 46 #[.pointer (some ⟨tb, 0, none⟩), .agg #[.int .i64 c, .string ⟨org.toArray⟩, .string ⟨#[]⟩]] w fun e w' => e = .returned (limV (limitS l c org [])) ∧ Below w.heap.size w w' := by
  have hok : OkS ⟨2, c, org, []⟩ := ⟨by show 2 < 4; omega, hcc, ho, by simp⟩
  have hokg : OkS ⟨0, c, [], []⟩ := ⟨by show 0 < 4; omega, hcc, by simp, by simp⟩
  have hlim : limitS l c org [] = (look l ⟨2, c, org, []⟩).getD ((look l ⟨0, c, [], []⟩).getD noLim) := by simp [limitS]
  rw [hlim]
  clear hlim
  have hlk : ∀ o0 o1 o2 o3 o4, (Instr.lookup 109 (.map (some mb)) (.agg #[.int .i64 2, .int .i64 c, .string ⟨org.toArray⟩, .string ⟨#[]⟩]) true).run Tryz.prog (((((w.alloc o0).alloc o1).alloc o2).alloc o3).alloc o4).drew = .ok (.tuple #[.agg #[.int .i64 ((look l ⟨2, c, org, []⟩).getD noLim).rate, .int .i64 ((look l ⟨2, c, org, []⟩).getD noLim).burst], .bool (look l ⟨2, c, org, []⟩).isSome]) (((((w.alloc o0).alloc o1).alloc o2).alloc o3).alloc o4).drew :=
    fun o0 o1 o2 o3 o4 => look_ok (((((hown.alloc o0).alloc o1).alloc o2).alloc o3).alloc o4).drew ⟨2, c, org, []⟩ hok hl
  have hlk3 : ∀ o0 o1 o2 o3, (Instr.lookup 109 (.map (some mb)) (.agg #[.int .i64 2, .int .i64 c, .string ⟨org.toArray⟩, .string ⟨#[]⟩]) true).run Tryz.prog ((((w.alloc o0).alloc o1).alloc o2).alloc o3).drew = .ok (.tuple #[.agg #[.int .i64 ((look l ⟨2, c, org, []⟩).getD noLim).rate, .int .i64 ((look l ⟨2, c, org, []⟩).getD noLim).burst], .bool (look l ⟨2, c, org, []⟩).isSome]) ((((w.alloc o0).alloc o1).alloc o2).alloc o3).drew :=
    fun o0 o1 o2 o3 => look_ok ((((hown.alloc o0).alloc o1).alloc o2).alloc o3).drew ⟨2, c, org, []⟩ hok hl
  have hlg : ∀ o0 o1 o2 o3 o4, (Instr.lookup 109 (.map (some mb)) (.agg #[.int .i64 0, .int .i64 c, .string ⟨#[]⟩, .string ⟨#[]⟩]) false).run Tryz.prog (((((w.alloc o0).alloc o1).alloc o2).alloc o3).alloc o4).drew.drew = .ok (.agg #[.int .i64 ((look l ⟨0, c, [], []⟩).getD noLim).rate, .int .i64 ((look l ⟨0, c, [], []⟩).getD noLim).burst]) (((((w.alloc o0).alloc o1).alloc o2).alloc o3).alloc o4).drew.drew :=
    fun o0 o1 o2 o3 o4 => look_one (((((hown.alloc o0).alloc o1).alloc o2).alloc o3).alloc o4).drew.drew ⟨0, c, [], []⟩ hokg hl
  have htb := cell_lt hc
  have hc3 : ∀ o0 o1 o2 o3, ((((w.alloc o0).alloc o1).alloc o2).alloc o3).cell? ⟨tb, 0, none⟩ = some (.map (some mb)) := fun o0 o1 o2 o3 => by rw [World.cell?_alloc_past _ _ _ (by simp; omega), World.cell?_alloc_past _ _ _ (by simp; omega), World.cell?_alloc_past _ _ _ (by simp; omega), World.cell?_alloc_past _ _ _ htb]; exact hc
  have hc4 : ∀ o0 o1 o2 o3 o4, (((((w.alloc o0).alloc o1).alloc o2).alloc o3).alloc o4).cell? ⟨tb, 0, none⟩ = some (.map (some mb)) := fun o0 o1 o2 o3 o4 => by rw [World.cell?_alloc_past _ _ _ (by simp; omega)]; exact hc3 o0 o1 o2 o3
  clear hown hl hok hokg
  cases hlo : look l ⟨2, c, org, []⟩ with
  | some lo =>
    rw [hlo] at hlk hlk3
    simp only [Option.getD_some, Option.isSome_some] at hlk hlk3
    simp only [Option.getD_some]
    clear hlg hlo
    go_enter Tryz.func46, Tryz.ntmps46
    go_wp2_with fail
    go_region
    all_goals
      go_wp2
      refine bodyPost_ret (v := limV lo) (by simp [results, Tryz.results46, go_sem, limV]) rfl ⟨rfl, ?_⟩
      exact (((((Below.alloc1 w _).alloc (by simp) _).alloc (by simp; omega) _).alloc (by simp; omega) _).alloc (by simp; omega) _).drew
  | none =>
    rw [hlo] at hlk hlk3
    simp only [Option.getD_none, Option.isSome_none] at hlk hlk3
    simp only [Option.getD_none]
    generalize (look l ⟨0, c, [], []⟩).getD noLim = lg at *
    clear hlo
    go_enter Tryz.func46, Tryz.ntmps46
    go_wp2_with fail
    go_region
    all_goals
      go_wp2_with fail
      go_region
      all_goals
        go_wp2
        refine bodyPost_ret (v := limV lg) (by simp [results, Tryz.results46, go_sem, limV]) rfl ⟨rfl, ?_⟩
        exact (((((Below.alloc1 w _).alloc (by simp) _).alloc (by simp; omega) _).alloc (by simp; omega) _).alloc (by simp; omega) _).drew.drew

set_option maxRecDepth 100000 in
set_option maxHeartbeats 1000000 in
theorem tabLimit_ten (l : List (Sl.Subj × Sl.Lim)) (tb mb n c : Nat) (org ten : List UInt8) (w : World) (hc : w.cell? ⟨tb, 0, none⟩ = some (.map (some mb))) (hown : w.ownsMap Tryz.prog 151 limR mb n (tabD l)) (hl : OkL l) (hcc : c < 2) (ho : org.length ≤ 2000) (ht : ten.length ≤ 2000) (hne : ten ≠ []) :
    Calls Tryz.prog 46 #[.pointer (some ⟨tb, 0, none⟩), .agg #[.int .i64 c, .string ⟨org.toArray⟩, .string ⟨ten.toArray⟩]] w fun e w' => e = .returned (limV (limitS l c org ten)) ∧ Below w.heap.size w w' := by
  have hok : OkS ⟨3, c, org, ten⟩ := ⟨by show 3 < 4; omega, hcc, ho, ht⟩
  have hokg : OkS ⟨1, c, [], []⟩ := ⟨by show 1 < 4; omega, hcc, by simp, by simp⟩
  have hlim : limitS l c org ten = (look l ⟨3, c, org, ten⟩).getD ((look l ⟨1, c, [], []⟩).getD noLim) := by simp [limitS, hne]
  rw [hlim]
  clear hlim
  have hlk : ∀ o0 o1 o2 o3 o4, (Instr.lookup 109 (.map (some mb)) (.agg #[.int .i64 3, .int .i64 c, .string ⟨org.toArray⟩, .string ⟨ten.toArray⟩]) true).run Tryz.prog (((((w.alloc o0).alloc o1).alloc o2).alloc o3).alloc o4).drew = .ok (.tuple #[.agg #[.int .i64 ((look l ⟨3, c, org, ten⟩).getD noLim).rate, .int .i64 ((look l ⟨3, c, org, ten⟩).getD noLim).burst], .bool (look l ⟨3, c, org, ten⟩).isSome]) (((((w.alloc o0).alloc o1).alloc o2).alloc o3).alloc o4).drew :=
    fun o0 o1 o2 o3 o4 => look_ok (((((hown.alloc o0).alloc o1).alloc o2).alloc o3).alloc o4).drew ⟨3, c, org, ten⟩ hok hl
  have hlk3 : ∀ o0 o1 o2 o3, (Instr.lookup 109 (.map (some mb)) (.agg #[.int .i64 3, .int .i64 c, .string ⟨org.toArray⟩, .string ⟨ten.toArray⟩]) true).run Tryz.prog ((((w.alloc o0).alloc o1).alloc o2).alloc o3).drew = .ok (.tuple #[.agg #[.int .i64 ((look l ⟨3, c, org, ten⟩).getD noLim).rate, .int .i64 ((look l ⟨3, c, org, ten⟩).getD noLim).burst], .bool (look l ⟨3, c, org, ten⟩).isSome]) ((((w.alloc o0).alloc o1).alloc o2).alloc o3).drew :=
    fun o0 o1 o2 o3 => look_ok ((((hown.alloc o0).alloc o1).alloc o2).alloc o3).drew ⟨3, c, org, ten⟩ hok hl
  have hlg : ∀ o0 o1 o2 o3 o4, (Instr.lookup 109 (.map (some mb)) (.agg #[.int .i64 1, .int .i64 c, .string ⟨#[]⟩, .string ⟨#[]⟩]) false).run Tryz.prog (((((w.alloc o0).alloc o1).alloc o2).alloc o3).alloc o4).drew.drew = .ok (.agg #[.int .i64 ((look l ⟨1, c, [], []⟩).getD noLim).rate, .int .i64 ((look l ⟨1, c, [], []⟩).getD noLim).burst]) (((((w.alloc o0).alloc o1).alloc o2).alloc o3).alloc o4).drew.drew :=
    fun o0 o1 o2 o3 o4 => look_one (((((hown.alloc o0).alloc o1).alloc o2).alloc o3).alloc o4).drew.drew ⟨1, c, [], []⟩ hokg hl
  have htb := cell_lt hc
  have hc3 : ∀ o0 o1 o2 o3, ((((w.alloc o0).alloc o1).alloc o2).alloc o3).cell? ⟨tb, 0, none⟩ = some (.map (some mb)) := fun o0 o1 o2 o3 => by rw [World.cell?_alloc_past _ _ _ (by simp; omega), World.cell?_alloc_past _ _ _ (by simp; omega), World.cell?_alloc_past _ _ _ (by simp; omega), World.cell?_alloc_past _ _ _ htb]; exact hc
  have hc4 : ∀ o0 o1 o2 o3 o4, (((((w.alloc o0).alloc o1).alloc o2).alloc o3).alloc o4).cell? ⟨tb, 0, none⟩ = some (.map (some mb)) := fun o0 o1 o2 o3 o4 => by rw [World.cell?_alloc_past _ _ _ (by simp; omega)]; exact hc3 o0 o1 o2 o3
  have hte : ten.isEmpty = false := by cases ten <;> simp at hne ⊢
  clear hown hl hok hokg
  cases hlo : look l ⟨3, c, org, ten⟩ with
  | some lo =>
    rw [hlo] at hlk hlk3
    simp only [Option.getD_some, Option.isSome_some] at hlk hlk3
    simp only [Option.getD_some]
    clear hlg hlo
    go_enter Tryz.func46, Tryz.ntmps46
    go_wp2_with fail
    go_region
    all_goals
      go_wp2
      refine bodyPost_ret (v := limV lo) (by simp [results, Tryz.results46, go_sem, limV]) rfl ⟨rfl, ?_⟩
      exact (((((Below.alloc1 w _).alloc (by simp) _).alloc (by simp; omega) _).alloc (by simp; omega) _).alloc (by simp; omega) _).drew
  | none =>
    rw [hlo] at hlk hlk3
    simp only [Option.getD_none, Option.isSome_none] at hlk hlk3
    simp only [Option.getD_none]
    generalize (look l ⟨1, c, [], []⟩).getD noLim = lg at *
    clear hlo
    go_enter Tryz.func46, Tryz.ntmps46
    go_wp2_with fail
    go_region
    all_goals
      go_wp2_with fail
      go_region
      all_goals
        go_wp2
        refine bodyPost_ret (v := limV lg) (by simp [results, Tryz.results46, go_sem, limV]) rfl ⟨rfl, ?_⟩
        exact (((((Below.alloc1 w _).alloc (by simp) _).alloc (by simp; omega) _).alloc (by simp; omega) _).alloc (by simp; omega) _).drew.drew


theorem tabLimit_any (l : List (Sl.Subj × Sl.Lim)) (tb mb n c : Nat) (org ten : List UInt8) (w : World) (hc : w.cell? ⟨tb, 0, none⟩ = some (.map (some mb))) (hown : w.ownsMap Tryz.prog 151 limR mb n (tabD l)) (hl : OkL l) (hcc : c < 2) (ho : org.length ≤ 2000) (ht : ten.length ≤ 2000) :
    Calls Tryz.prog 46 #[.pointer (some ⟨tb, 0, none⟩), .agg #[.int .i64 c, .string ⟨org.toArray⟩, .string ⟨ten.toArray⟩]] w fun e w' => e = .returned (limV (limitS l c org ten)) ∧ Below w.heap.size w w' := by
  by_cases h : ten = []
  · subst h; exact tabLimit_org l tb mb n c org w hc hown hl hcc ho
  · exact tabLimit_ten l tb mb n c org ten w hc hown hl hcc ho ht h

/-- The class of the bucket that is meant, if one is. -/
def bucketS (cls org ten : List UInt8) : Option Nat := match Sl.classOf cls with
  | none => none
  | some c => if Sl.isName org = true ∧ (ten = [] ∨ Sl.isName ten = true) then some c else none

end Go.Proofs.YthmhfilkgggagaaGreatDoor
