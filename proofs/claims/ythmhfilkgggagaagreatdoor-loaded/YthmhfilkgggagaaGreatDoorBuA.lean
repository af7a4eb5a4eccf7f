/-
  The limit of a bucket: that of the line that speaks of it, or the default.
  readKey: which bucket is meant, and whether one is.
-/
import Derived.Test.YthmhfilkgggagaaGreatDoorAtomic
import Derived.Test.YthmhfilkgggagaaGreatDoorLev
namespace Go.Proofs.YthmhfilkgggagaaGreatDoor
open Go.RowKit Go.Maps Go.Sort

/-- The limit that a table sets for a bucket: an organisation's, if there is no tenant. -/
def limitS (l : List (Sl.Subj × Sl.Lim)) (c : Nat) (org ten : List UInt8) : Sl.Lim :=
  if ten = [] then (look l ⟨2, c, org, []⟩).getD ((look l ⟨0, c, [], []⟩).getD noLim) else (look l ⟨3, c, org, ten⟩).getD ((look l ⟨1, c, [], []⟩).getD noLim)

abbrev subjB (k c : Nat) (org ten : List UInt8) : Obj := .cells #[.int .i64 k, .int .i64 c, .string ⟨org.toArray⟩, .string ⟨ten.toArray⟩] 151

set_option maxRecDepth 100000 in
set_option maxHeartbeats 1000000 in
theorem tabLimit_org (l : List (Sl.Subj × Sl.Lim)) (tb mb n c : Nat) (org : List UInt8) (w : World) (hc : w.cell? ⟨tb, 0, none⟩ = some (.map (some mb))) (hown : w.ownsMap Tryz.prog 151 limR mb n (tabD l)) (hl : OkL l) (hcc : c < 2) (ho : org.length ≤ 2000) :
    Calls Tryz.prog 46 #[.pointer (some ⟨tb, 0, none⟩), .agg #[.int .i64 c, .string ⟨org.toArray⟩, .string ⟨#[]⟩]] w fun e w' => e = .returned (limV (limitS l c org [])) ∧ Below w.heap.size w w' := by
  have hok : OkS ⟨2, c, org, []⟩ := ⟨by show 2 < 4; omega, hcc, ho, by simp⟩
  have hokg : OkS ⟨0, c, [], []⟩ := ⟨by show 0 < 4; omega, hcc, by simp, by simp⟩
  have hlim : limitS l c org [] = (look l ⟨2, c, org, []⟩).getD ((look l ⟨0, c, [], []⟩).getD noLim) := by simp [limitS]
  rw [hlim]
  clear hlim
  have hlk : ∀ o0 o1 o2 o3 o4, (Instr.lookup 109 (.map (some mb)) (.agg #[.int .i64 2, .int .i64 c, .string ⟨org.toArray⟩, .string ⟨#[]⟩]) true).run Tryz.prog (((((w.alloc o0).alloc o1).alloc o2).alloc o3).alloc o4).drew = .ok (.tuple #[.agg #[.int .i64 ((look l ⟨2, c, org, []⟩).getD noLim).rate, .int .i64 ((look l ⟨2, c, org, []⟩).getD noLim).burst], .bool (look l ⟨2, c, org, []⟩).isSome]) (((((w.alloc o0).alloc o1).alloc o2).alloc o3).alloc o4).drew :=
    fun o0 o1 o2 o3 o4 => look_ok (((((hown.alloc o0).alloc o1).alloc o2).alloc o3).alloc o4).drew ⟨2, c, org, []⟩ hok hl
  have hlk3 : ∀ o0 o1 o2 o3, (Instr.lookup 109 (.map (some mb)) (.agg #[.int .i64 2, .int .i64 c, .string ⟨org.toArray⟩, .string ⟨#[]⟩]) true).run Tryz.prog ((((w.alloc o0).alloc o1).alloc o2).alloc o3).drew = .ok (.tuple #[.agg #[.int .i64 ((look l ⟨2, c, org, []⟩).getD noLim).rate, .int .i64 ((look l ⟨2, c, org, []⟩).getD noLim).burst], .bool (look l ⟨2, c, org, []⟩).isSome]) ((((w.alloc o0).alloc o1).alloc o2).alloc o3).drew :=
    fun o0 o1 o2 o3 => look_ok ((((hown.alloc o0).alloc o1).alloc o2).alloc o3).drew ⟨2, c, org, []⟩ hok hl
  have hlg : ∀ o0 o1 o2 o3 o4, (Instr.lookup 109 (.map (some mb)) (.agg #[.int .i64 0, .int .i64 c, .string ⟨#[]⟩, .string ⟨#[]⟩]) false).run Tryz.prog (((((w.alloc o0).alloc o1).alloc o2).alloc o3).alloc o4).drew.drew = .ok (.agg #[.int .i64 ((look l ⟨0, c, [], []⟩).getD noLim).rate, .int .i64 ((look l ⟨0, c, [], []⟩).getD noLim).burst]) (((((w.alloc o0).alloc o1).alloc o2).alloc o3).alloc o4).drew.drew :=
    fun o0 o1 o2 o3 o4 => look_one (((((hown.alloc o0).alloc o1).alloc o2).alloc o3).alloc o4).drew.drew ⟨0, c, [], []⟩ hokg hl
  have htb := cell_lt hc
  have hc3 : ∀ o0 o1 o2 o3, ((((w.alloc o0).alloc o1).alloc o2).alloc o3).cell? ⟨tb, 0, none⟩ = some (.map (some mb)) := fun o0 o1 o2 o3 => by rw [World.cell?_alloc_past _ _ _ (by simp; omega), World.cell?_alloc_past _ _ _ (by simp; omega), World.cell?_alloc_past _ _ _ (by simp; omega), World.cell?_alloc_past _ _ _ htb]; exact hc
  have hc4 : ∀ o0 o1 o2 o3 o4, (((((w.alloc o0).alloc o1).alloc o2).alloc o3).alloc o4).cell? ⟨tb, 0, none⟩ = some (.map (some mb)) := fun o0 o1 o2 o3 o4 => by rw [World.cell?_alloc_past _ _ _ (by simp; omega)]; exact hc3 o0 o1 o2 o3
  clear hown hl hok hokg
  cases hlo : look l ⟨2, c, org, []⟩ with
  | some lo =>
    rw [hlo] at hlk hlk3
    simp only [Option.getD_some, Option.isSome_some] at hlk hlk3
    simp only [Option.getD_some]
    clear hlg hlo
    go_enter Tryz.func46, Tryz.ntmps46
    go_wp2_with fail
    go_region
    all_goals
      go_wp2
      refine bodyPost_ret (v := limV lo) (by simp [results, Tryz.results46, go_sem, limV]) rfl ⟨rfl, ?_⟩
      exact (((((Below.alloc1 w _).alloc (by simp) _).alloc (by simp; omega) _).alloc (by simp; omega) _).alloc (by simp; omega) _).drew
  | none =>
    rw [hlo] at hlk hlk3
    simp only [Option.getD_none, Option.isSome_none] at hlk hlk3
    simp only [Option.getD_none]
    generalize (look l ⟨0, c, [], []⟩).getD noLim = lg at *
    clear hlo
    go_enter Tryz.func46, Tryz.ntmps46
    go_wp2_with fail
    go_region
    all_goals
      go_wp2_with fail
      go_region
      all_goals
        go_wp2
        refine bodyPost_ret (v := limV lg) (by simp [results, Tryz.results46, go_sem, limV]) rfl ⟨rfl, ?_⟩
        exact (((((Below.alloc1 w _).alloc (by simp) _).alloc (by simp; omega) _).alloc (by simp; omega) _).alloc (by simp; omega) _).drew.drew

set_option maxRecDepth 100000 in
set_option maxHeartbeats 1000000 in
theorem tabLimit_ten (l : List (Sl.Subj × Sl.Lim)) (tb mb n c : Nat) (org ten : List UInt8) (w : World) (hc : w.cell? ⟨tb, 0, none⟩ = some (.map (some mb))) (hown : w.ownsMap Tryz.prog 151 limR mb n (tabD l)) (hl : OkL l) (hcc : c < 2) (ho : org.length ≤ 2000) (ht : ten.length ≤ 2000) (hne : ten ≠ []) :
    Calls Tryz.prog 46 #[.pointer (some ⟨tb, 0, none⟩), .agg #[.int .i64 c, .string ⟨org.toArray⟩, .string ⟨ten.toArray⟩]] w fun e w' => e = .returned (limV (limitS l c org ten)) ∧ Below w.heap.size w w' := by
  have hok : OkS ⟨3, c, org, ten⟩ := ⟨by show 3 < 4; omega, hcc, ho, ht⟩
  have hokg : OkS ⟨1, c, [], []⟩ := ⟨by show 1 < 4; omega, hcc, by simp, by simp⟩
  have hlim : limitS l c org ten = (look l ⟨3, c, org, ten⟩).getD ((look l ⟨1, c, [], []⟩).getD noLim) := by simp [limitS, hne]
  rw [hlim]
  clear hlim
  have hlk : ∀ o0 o1 o2 o3 o4, (Instr.lookup 109 (.map (some mb)) (.agg #[.int .i64 3, .int .i64 c, .string ⟨org.toArray⟩, .string ⟨ten.toArray⟩]) true).run Tryz.prog (((((w.alloc o0).alloc o1).alloc o2).alloc o3).alloc o4).drew = .ok (.tuple #[.agg #[.int .i64 ((look l ⟨3, c, org, ten⟩).getD noLim).rate, .int .i64 ((look l ⟨3, c, org, ten⟩).getD noLim).burst], .bool (look l ⟨3, c, org, ten⟩).isSome]) (((((w.alloc o0).alloc o1).alloc o2).alloc o3).alloc o4).drew :=
    fun o0 o1 o2 o3 o4 => look_ok (((((hown.alloc o0).alloc o1).alloc o2).alloc o3).alloc o4).drew ⟨3, c, org, ten⟩ hok hl
  have hlk3 : ∀ o0 o1 o2 o3, (Instr.lookup 109 (.map (some mb)) (.agg #[.int .i64 3, .int .i64 c, .string ⟨org.toArray⟩, .string ⟨ten.toArray⟩]) true).run Tryz.prog ((((w.alloc o0).alloc o1).alloc o2).alloc o3).drew = .ok (.tuple #[.agg #[.int .i64 ((look l ⟨3, c, org, ten⟩).getD noLim).rate, .int .i64 ((look l ⟨3, c, org, ten⟩).getD noLim).burst], .bool (look l ⟨3, c, org, ten⟩).isSome]) ((((w.alloc o0).alloc o1).alloc o2).alloc o3).drew :=
    fun o0 o1 o2 o3 => look_ok ((((hown.alloc o0).alloc o1).alloc o2).alloc o3).drew ⟨3, c, org, ten⟩ hok hl
  have hlg : ∀ o0 o1 o2 o3 o4, (Instr.lookup 109 (.map (some mb)) (.agg #[.int .i64 1, .int .i64 c, .string ⟨#[]⟩, .string ⟨#[]⟩]) false).run Tryz.prog (((((w.alloc o0).alloc o1).alloc o2).alloc o3).alloc o4).drew.drew = .ok (.agg #[.int .i64 ((look l ⟨1, c, [], []⟩).getD noLim).rate, .int .i64 ((look l ⟨1, c, [], []⟩).getD noLim).burst]) (((((w.alloc o0).alloc o1).alloc o2).alloc o3).alloc o4).drew.drew :=
    fun o0 o1 o2 o3 o4 => look_one (((((hown.alloc o0).alloc o1).alloc o2).alloc o3).alloc o4).drew.drew ⟨1, c, [], []⟩ hokg hl
  have htb := cell_lt hc
  have hc3 : ∀ o0 o1 o2 o3, ((((w.alloc o0).alloc o1).alloc o2).alloc o3).cell? ⟨tb, 0, none⟩ = some (.map (some mb)) := fun o0 o1 o2 o3 => by rw [World.cell?_alloc_past _ _ _ (by simp; omega), World.cell?_alloc_past _ _ _ (by simp; omega), World.cell?_alloc_past _ _ _ (by simp; omega), World.cell?_alloc_past _ _ _ htb]; exact hc
  have hc4 : ∀ o0 o1 o2 o3 o4, (((((w.alloc o0).alloc o1).alloc o2).alloc o3).alloc o4).cell? ⟨tb, 0, none⟩ = some (.map (some mb)) := fun o0 o1 o2 o3 o4 => by rw [World.cell?_alloc_past _ _ _ (by simp; omega)]; exact hc3 o0 o1 o2 o3
  have hte : ten.isEmpty = false := by cases ten <;> simp at hne ⊢
  clear hown hl hok hokg
  cases hlo : look l ⟨3, c, org, ten⟩ with
  | some lo =>
    rw [hlo] at hlk hlk3
    simp only [Option.getD_some, Option.isSome_some] at hlk hlk3
    simp only [Option.getD_some]
    clear hlg hlo
    go_enter Tryz.func46, Tryz.ntmps46
    go_wp2_with fail
    go_region
    all_goals
      go_wp2
      refine bodyPost_ret (v := limV lo) (by simp [results, Tryz.results46, go_sem, limV]) rfl ⟨rfl, ?_⟩
      exact (((((Below.alloc1 w _).alloc (by simp) _).alloc (by simp; omega) _).alloc (by simp; omega) _).alloc (by simp; omega) _).drew
  | none =>
    rw [hlo] at hlk hlk3
    simp only [Option.getD_none, Option.isSome_none] at hlk hlk3
    simp only [Option.getD_none]
    generalize (look l ⟨1, c, [], []⟩).getD noLim = lg at *
    clear hlo
    go_enter Tryz.func46, Tryz.ntmps46
    go_wp2_with fail
    go_region
    all_goals
      go_wp2_with fail
      go_region
      all_goals
        go_wp2
        refine bodyPost_ret (v := limV lg) (by simp [results, Tryz.results46, go_sem, limV]) rfl ⟨rfl, ?_⟩
        exact (((((Below.alloc1 w _).alloc (by simp) _).alloc (by simp; omega) _).alloc (by simp; omega) _).alloc (by simp; omega) _).drew.drew


theorem tabLimit_any (l : List (Sl.Subj × Sl.Lim)) (tb mb n c : Nat) (org ten : List UInt8) (w : World) (hc : w.cell? ⟨tb, 0, none⟩ = some (.map (some mb))) (hown : w.ownsMap Tryz.prog 151 limR mb n (tabD l)) (hl : OkL l) (hcc : c < 2) (ho : org.length ≤ 2000) (ht : ten.length ≤ 2000) :
    Calls Tryz.prog 46 #[.pointer (some ⟨tb, 0, none⟩), .agg #[.int .i64 c, .string ⟨org.toArray⟩, .string ⟨ten.toArray⟩]] w fun e w' => e = .returned (limV (limitS l c org ten)) ∧ Below w.heap.size w w' := by
  by_cases h : ten = []
  · subst h; exact tabLimit_org l tb mb n c org w hc hown hl hcc ho
  · exact tabLimit_ten l tb mb n c org ten w hc hown hl hcc ho ht h

/-- The class of the bucket that is meant, if one is. -/
def bucketS (cls org ten : List UInt8) : Option Nat := match Sl.classOf cls with
  | none => none
  | some c => if Sl.isName org = true ∧ (ten = [] ∨ Sl.isName ten = true) then some c else none

end Go.Proofs.YthmhfilkgggagaaGreatDoor

namespace Go.Proofs.YthmhfilkgggagaaGreatDoor
open Go.RowKit Go.Maps Go.Sort

def Three (w : World) (n : Nat) (a b c : Value) : Prop :=
  w.cell? ⟨n, 0, none⟩ = some a ∧ w.cell? ⟨n, 1, none⟩ = some b ∧ w.cell? ⟨n, 2, none⟩ = some c ∧ w.frozen? ⟨n, 0, none⟩ = false ∧ w.frozen? ⟨n, 1, none⟩ = false ∧ w.frozen? ⟨n, 2, none⟩ = false ∧ n < w.heap.size

theorem Three.made (w : World) (a b c : Value) (t : TypeId) : Three (w.alloc (.cells #[a, b, c] t)) w.heap.size a b c := by
  refine ⟨?_, ?_, ?_, ?_, ?_, ?_, ?_⟩ <;> simp [go_sem]

theorem Three.keep {W w : World} {n : Nat} {a b c : Value} (h : Three W n a b c) {B : Nat} (hb : Below B W w) (hB : n < B) : Three w n a b c :=
  ⟨(hb.cell (p := ⟨n, 0, none⟩) hB).trans h.1, (hb.cell (p := ⟨n, 1, none⟩) hB).trans h.2.1, (hb.cell (p := ⟨n, 2, none⟩) hB).trans h.2.2.1, (hb.frozen (p := ⟨n, 0, none⟩) hB).trans h.2.2.2.1, (hb.frozen (p := ⟨n, 1, none⟩) hB).trans h.2.2.2.2.1, (hb.frozen (p := ⟨n, 2, none⟩) hB).trans h.2.2.2.2.2.1, Nat.lt_of_lt_of_le h.2.2.2.2.2.2 hb.size⟩

/-- What readKey answers: the class is 0 where no bucket is meant. -/
def bucketA (cls org ten : List UInt8) : Nat × Bool := match bucketS cls org ten with
  | none => (0, false)
  | some c => (c, true)

/-- The bucket that readKey answers. -/
def keyA (cls org ten : List UInt8) : Kb := match bucketS cls org ten with
  | none => (0, [], [])
  | some c => (c, org, ten)

set_option maxRecDepth 100000 in
set_option maxHeartbeats 1000000 in
theorem readKey_any (cls org ten : List UInt8) (w : World) :
    Calls Tryz.prog 45 #[.string ⟨cls.toArray⟩, .string ⟨org.toArray⟩, .string ⟨ten.toArray⟩] w fun e w' => e = .returned (.tuple #[keyV (keyA cls org ten), .bool (bucketA cls org ten).2]) ∧ Below w.heap.size w w' := by
  have hrc2 := fun w => readClass_any ⟨cls.toArray⟩ w
  have hno := fun w => isName_any ⟨org.toArray⟩ w
  have hnt := fun w => isName_any ⟨ten.toArray⟩ w
  simp only [] at hno hnt hrc2
  have HNO := hide hno; have HNT := hide hnt
  have HTH := hide (fun (W : World) => Three.made W (.int .i64 0) (.string ⟨#[]⟩) (.string ⟨#[]⟩) 118)
  clear hno hnt
  unfold bucketA keyA bucketS
  cases hc : Sl.classOf cls with
  | none =>
    rw [hc] at hrc2
    simp only [Option.getD_none, Option.isSome_none] at hrc2
    have HRC := hide hrc2
    clear hrc2 hc
    simp only [keyV]
    go_enter Tryz.func45, Tryz.ntmps45
    go_wp2_with fail
    refine (unhide HRC _).mono ?_
    rintro e w1 ⟨rfl, rfl⟩
    obtain ⟨b0, b1, b2, v0, v1, v2, bn⟩ := unhide HTH w
    go_wp2
    refine bodyPost_ret (v := .tuple #[.agg #[.int .i64 0, .string ⟨#[]⟩, .string ⟨#[]⟩], .bool false]) (by simp [results, Tryz.results45, go_sem, b0, b1, b2]) rfl ⟨rfl, ?_⟩
    exact Below.alloc1 w _
  | some c =>
    rw [hc] at hrc2
    simp only [Option.getD_some, Option.isSome_some] at hrc2
    have HRC := hide hrc2
    clear hrc2 hc
    cases hn : Sl.isName org with
    | false =>
      rw [hn] at HNO
      simp only [Bool.false_eq_true, false_and, if_false, keyV]
      go_enter Tryz.func45, Tryz.ntmps45
      go_wp2_with fail
      refine (unhide HRC _).mono ?_
      rintro e w1 ⟨rfl, rfl⟩
      go_wp2_with fail
      refine (unhide HNO _).mono ?_
      rintro e w2 ⟨rfl, hb⟩
      obtain ⟨b0, b1, b2, v0, v1, v2, bn⟩ := (unhide HTH w).keep hb (by simp)
      have HB : Hid (Below w.heap.size w w2) := hide ((Below.alloc1 w _).trans (hb.mono (by simp)))
      clear hb
      go_wp2
      refine bodyPost_ret (v := .tuple #[.agg #[.int .i64 0, .string ⟨#[]⟩, .string ⟨#[]⟩], .bool false]) (by simp [results, Tryz.results45, go_sem, b0, b1, b2]) rfl ⟨rfl, ?_⟩
      exact (((unhide HB).setCell (Nat.le_refl _) _).setCell (Nat.le_refl _) _).setCell (Nat.le_refl _) _
    | true =>
      rw [hn] at HNO
      by_cases ht : ten = []
      · subst ht
        simp only [true_and, true_or, if_true, keyV]
        go_enter Tryz.func45, Tryz.ntmps45
        go_wp2_with fail
        refine (unhide HRC _).mono ?_
        rintro e w1 ⟨rfl, rfl⟩
        go_wp2_with fail
        refine (unhide HNO _).mono ?_
        rintro e w2 ⟨rfl, hb⟩
        obtain ⟨b0, b1, b2, v0, v1, v2, bn⟩ := (unhide HTH w).keep hb (by simp)
        have HB : Hid (Below w.heap.size w w2) := hide ((Below.alloc1 w _).trans (hb.mono (by simp)))
        clear hb
        go_wp2
        refine bodyPost_ret (v := .tuple #[.agg #[.int .i64 c, .string ⟨org.toArray⟩, .string ⟨#[]⟩], .bool true]) (by simp [results, Tryz.results45, go_sem, b0, b1, b2]) rfl ⟨rfl, ?_⟩
        exact (((unhide HB).setCell (Nat.le_refl _) _).setCell (Nat.le_refl _) _).setCell (Nat.le_refl _) _
      · have hte : ten.isEmpty = false := by cases ten <;> simp at ht ⊢
        cases hnn : Sl.isName ten with
        | false =>
          rw [hnn] at HNT
          simp only [ht, Bool.false_eq_true, or_self, and_false, if_false, keyV]
          clear ht
          go_enter Tryz.func45, Tryz.ntmps45
          go_wp2_with fail
          refine (unhide HRC _).mono ?_
          rintro e w1 ⟨rfl, rfl⟩
          go_wp2_with fail
          refine (unhide HNO _).mono ?_
          rintro e w2 ⟨rfl, hb⟩
          go_wp2_with fail
          refine (unhide HNT _).mono ?_
          rintro e w3 ⟨rfl, hb3⟩
          obtain ⟨b0, b1, b2, v0, v1, v2, bn⟩ := ((unhide HTH w).keep hb (by simp)).keep hb3 (Nat.lt_of_lt_of_le (by simp) hb.size)
          have HB : Hid (Below w.heap.size w w3) := hide (((Below.alloc1 w _).trans (hb.mono (by simp))).trans (hb3.mono (Nat.le_trans (by simp) hb.size)))
          clear hb hb3
          go_wp2
          refine bodyPost_ret (v := .tuple #[.agg #[.int .i64 0, .string ⟨#[]⟩, .string ⟨#[]⟩], .bool false]) (by simp [results, Tryz.results45, go_sem, b0, b1, b2]) rfl ⟨rfl, ?_⟩
          exact (((unhide HB).setCell (Nat.le_refl _) _).setCell (Nat.le_refl _) _).setCell (Nat.le_refl _) _
        | true =>
          rw [hnn] at HNT
          simp only [ht, or_true, and_self, if_true, keyV]
          clear ht
          go_enter Tryz.func45, Tryz.ntmps45
          go_wp2_with fail
          refine (unhide HRC _).mono ?_
          rintro e w1 ⟨rfl, rfl⟩
          go_wp2_with fail
          refine (unhide HNO _).mono ?_
          rintro e w2 ⟨rfl, hb⟩
          go_wp2_with fail
          refine (unhide HNT _).mono ?_
          rintro e w3 ⟨rfl, hb3⟩
          obtain ⟨b0, b1, b2, v0, v1, v2, bn⟩ := ((unhide HTH w).keep hb (by simp)).keep hb3 (Nat.lt_of_lt_of_le (by simp) hb.size)
          have HB : Hid (Below w.heap.size w w3) := hide (((Below.alloc1 w _).trans (hb.mono (by simp))).trans (hb3.mono (Nat.le_trans (by simp) hb.size)))
          clear hb hb3
          go_wp2
          refine bodyPost_ret (v := .tuple #[.agg #[.int .i64 c, .string ⟨org.toArray⟩, .string ⟨ten.toArray⟩], .bool true]) (by simp [results, Tryz.results45, go_sem, b0, b1, b2]) rfl ⟨rfl, ?_⟩
          exact (((unhide HB).setCell (Nat.le_refl _) _).setCell (Nat.le_refl _) _).setCell (Nat.le_refl _) _

end Go.Proofs.YthmhfilkgggagaaGreatDoor
