/-
  readKey: which bucket is meant, and whether one is.
-/
import Derived.Test.YthmhfilkgggagaaGreatDoorBucket
namespace Go.Proofs.YthmhfilkgggagaaGreatDoor
open Go.RowKit Go.Maps Go.Sort

def Three (w : World) (n : Nat) (a b c : Value) : Prop :=
  w.cell? ⟨n, 0, none⟩ = some a ∧ w.cell? ⟨n, 1, none⟩ = some b ∧ w.cell? ⟨n, 2, none⟩ = some c ∧ w.frozen? ⟨n, 0, none⟩ = false ∧ w.frozen? ⟨n, 1, none⟩ = false ∧ w.frozen? ⟨n, 2, none⟩ = false ∧ n < w.heap.size

theorem Three.made (w : World) (a b c : Value) (t : TypeId) : Three (w.alloc (.cells #[a, b, c] t)) w.heap.size a b c := by
  refine ⟨?_, ?_, ?_, ?_, ?_, ?_, ?_⟩ <;> simp [go_sem]

theorem Three.keep {W w : World} {n : Nat} {a b c : Value} (h : Three W n a b c) {B : Nat} (hb : Below B W w) (hB : n < B) : Three w n a b c :=
  ⟨(hb.cell (p := ⟨n, 0, none⟩) hB).trans h.1, (hb.cell (p := ⟨n, 1, none⟩) hB).trans h.2.1, (hb.cell (p := ⟨n, 2, none⟩) hB).trans h.2.2.1, (hb.frozen (p := ⟨n, 0, none⟩) hB).trans h.2.2.2.1, (hb.frozen (p := ⟨n, 1, none⟩) hB).trans h.2.2.2.2.1, (hb.frozen (p := ⟨n, 2, none⟩) hB).trans h.2.2.2.2.2.1, Nat.lt_of_lt_of_le h.2.2.2.2.2.2 hb.size⟩

/-- What readKey answers: the class is 0 where no bucket is meant. -/
def bucketA (cls org ten : List UInt8) : Nat × Bool := match bucketS cls org ten with
  | none => (0, false)
  | some c => (c, true)

/-- The bucket that readKey answers. -/
def keyA (cls org ten : List UInt8) : Kb := match bucketS cls org ten with
  | none => (0, [], [])
  | some c => (c, org, ten)

set_option maxRecDepth 100000 in
set_option maxHeartbeats 1000000 in
theorem readKey_any (cls org ten : List UInt8) (w : World) :
    Calls Tryz.prog 45 #[.string ⟨cls.toArray⟩, .string ⟨org.toArray⟩, .string ⟨ten.toArray⟩] w fun e w' => e = .returned (.tuple #[keyV (keyA cls org ten), .bool (bucketA cls org ten).2]) ∧ Below w.heap.size w w' := by
  have hrc2 := fun w => readClass_any ⟨cls.toArray⟩ w
  have hno := fun w => isName_any ⟨org.toArray⟩ w
  have hnt := fun w => isName_any ⟨ten.toArray⟩ w
  simp only [] at hno hnt hrc2
  have HNO := hide hno; have HNT := hide hnt
  have HTH := hide (fun (W : World) => Three.made W (.int .i64 0) (.string ⟨#[]⟩) (.string ⟨#[]⟩) 118)
  clear hno hnt
  unfold bucketA keyA bucketS
  cases hc : Sl.classOf cls with
  | none =>
    rw [hc] at hrc2
    simp only [Option.getD_none, Option.isSome_none] at hrc2
    have HRC := hide hrc2
    clear hrc2 hc
    simp only [keyV]
    go_enter Tryz.func45, Tryz.ntmps45
    go_wp2_with fail
    refine (unhide HRC _).mono ?_
    rintro e w1 ⟨rfl, rfl⟩
    obtain ⟨b0, b1, b2, v0, v1, v2, bn⟩ := unhide HTH w
    go_wp2
    refine bodyPost_ret (v := .tuple #[.agg #[.int .i64 0, .string ⟨#[]⟩, .string ⟨#[]⟩], .bool false]) (by simp [results, Tryz.results45, go_sem, b0, b1, b2]) rfl ⟨rfl, ?_⟩
    exact Below.alloc1 w _
  | some c =>
    rw [hc] at hrc2
    simp only [Option.getD_some, Option.isSome_some] at hrc2
    have HRC := hide hrc2
    clear hrc2 hc
    cases hn : Sl.isName org with
    | false =>
      rw [hn] at HNO
      simp only [Bool.false_eq_true, false_and, if_false, keyV]
      go_enter Tryz.func45, Tryz.ntmps45
      go_wp2_with fail
      refine (unhide HRC _).mono ?_
      rintro e w1 ⟨rfl, rfl⟩
      go_wp2_with fail
      refine (unhide HNO _).mono ?_
      rintro e w2 ⟨rfl, hb⟩
      obtain ⟨b0, b1, b2, v0, v1, v2, bn⟩ := (unhide HTH w).keep hb (by simp)
      have HB : Hid (Below w.heap.size w w2) := hide ((Below.alloc1 w _).trans (hb.mono (by simp)))
      clear hb
      go_wp2
      refine bodyPost_ret (v := .tuple #[.agg #[.int .i64 0, .string ⟨#[]⟩, .string ⟨#[]⟩], .bool false]) (by simp [results, Tryz.results45, go_sem, b0, b1, b2]) rfl ⟨rfl, ?_⟩
      exact (((unhide HB).setCell (Nat.le_refl _) _).setCell (Nat.le_refl _) _).setCell (Nat.le_refl _) _
    | true =>
      rw [hn] at HNO
      by_cases ht : ten = []
      · subst ht
        simp only [true_and, true_or, if_true, keyV]
        go_enter Tryz.func45, Tryz.ntmps45
        go_wp2_with fail
        refine (unhide HRC _).mono ?_
        rintro e w1 ⟨rfl, rfl⟩
        go_wp2_with fail
        refine (unhide HNO _).mono ?_
        rintro e w2 ⟨rfl, hb⟩
        obtain ⟨b0, b1, b2, v0, v1, v2, bn⟩ := (unhide HTH w).keep hb (by simp)
        have HB : Hid (Below w.heap.size w w2) := hide ((Below.alloc1 w _).trans (hb.mono (by simp)))
        clear hb
        go_wp2
        refine bodyPost_ret (v := .tuple #[.agg #[.int .i64 c, .string ⟨org.toArray⟩, .string ⟨#[]⟩], .bool true]) (by simp [results, Tryz.results45, go_sem, b0, b1, b2]) rfl ⟨rfl, ?_⟩
        exact (((unhide HB).setCell (Nat.le_refl _) _).setCell (Nat.le_refl _) _).setCell (Nat.le_refl _) _
      · have hte : ten.isEmpty = false := by cases ten <;> simp at ht ⊢
        cases hnn : Sl.isName ten with
        | false =>
          rw [hnn] at HNT
          simp only [ht, Bool.false_eq_true, or_self, and_false, if_false, keyV]
          clear ht
          go_enter Tryz.func45, Tryz.ntmps45
          go_wp2_with fail
          refine (unhide HRC _).mono ?_
          rintro e w1 ⟨rfl, rfl⟩
          go_wp2_with fail
          refine (unhide HNO _).mono ?_
          rintro e w2 ⟨rfl, hb⟩
          go_wp2_with fail
          refine (unhide HNT _).mono ?_
          rintro e w3 ⟨rfl, hb3⟩
          obtain ⟨b0, b1, b2, v0, v1, v2, bn⟩ := ((unhide HTH w).keep hb (by simp)).keep hb3 (Nat.lt_of_lt_of_le (by simp) hb.size)
          have HB : Hid (Below w.heap.size w w3) := hide (((Below.alloc1 w _).trans (hb.mono (by simp))).trans (hb3.mono (Nat.le_trans (by simp) hb.size)))
          clear hb hb3
          go_wp2
          refine bodyPost_ret (v := .tuple #[.agg #[.int .i64 0, .string ⟨#[]⟩, .string ⟨#[]⟩], .bool false]) (by simp [results, Tryz.results45, go_sem, b0, b1, b2]) rfl ⟨rfl, ?_⟩
          exact (((unhide HB).setCell (Nat.le_refl _) _).setCell (Nat.le_refl _) _).setCell (Nat.le_refl _) _
        | true =>
          rw [hnn] at HNT
          simp only [ht, or_true, and_self, if_true, keyV]
          clear ht
          go_enter Tryz.func45, Tryz.ntmps45
          go_wp2_with fail
          refine (unhide HRC _).mono ?_
          rintro e w1 ⟨rfl, rfl⟩
          go_wp2_with fail
          refine (unhide HNO _).mono ?_
          rintro e w2 ⟨rfl, hb⟩
          go_wp2_with fail
          refine (unhide HNT _).mono ?_
          rintro e w3 ⟨rfl, hb3⟩
          obtain ⟨b0, b1, b2, v0, v1, v2, bn⟩ := ((unhide HTH w).keep hb (by simp)).keep hb3 (Nat.lt_of_lt_of_le (by simp) hb.size)
          have HB : Hid (Below w.heap.size w w3) := hide (((Below.alloc1 w _).trans (hb.mono (by simp))).trans (hb3.mono (Nat.le_trans (by simp) hb.size)))
          clear hb hb3
          go_wp2
          refine bodyPost_ret (v := .tuple #[.agg #[.int .i64 c, .string ⟨org.toArray⟩, .string ⟨ten.toArray⟩], .bool true]) (by simp [results, Tryz.results45, go_sem, b0, b1, b2]) rfl ⟨rfl, ?_⟩
          exact (((unhide HB).setCell (Nat.le_refl _) _).setCell (Nat.le_refl _) _).setCell (Nat.le_refl _) _

end Go.Proofs.YthmhfilkgggagaaGreatDoor
