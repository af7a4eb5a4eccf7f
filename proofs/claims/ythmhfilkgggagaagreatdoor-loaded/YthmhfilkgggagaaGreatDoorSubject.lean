/-
  readSubject, readLine, saysNothing: what a line's words say.
-/
import Derived.Test.YthmhfilkgggagaaGreatDoorOwA
namespace Go.Proofs.YthmhfilkgggagaaGreatDoor
open Go.RowKit

namespace Sl
def subject (l : List (List UInt8)) : Option Subj := match l.getLast? with
  | none => none
  | some x => match classOf x with
    | none => none
    | some c => owner l.dropLast c
end Sl

theorem subject_snoc (l : List (List UInt8)) (x : List UInt8) : Sl.subject (l ++ [x]) = match Sl.classOf x with | none => none | some c => Sl.owner l c := by
  simp [Sl.subject]

theorem StrsAt.left {w : World} {b off : Nat} {l r : List ByteArray} (h : StrsAt w b off (l ++ r)) : StrsAt w b off l := fun i hi => by
  have := h i (by simp; omega)
  rw [List.getElem_append_left hi] at this; exact this

theorem StrsAt.at {w : World} {b off : Nat} {l r : List ByteArray} {x : ByteArray} (h : StrsAt w b off (l ++ x :: r)) : w.cell? ⟨b, off + l.length, none⟩ = some (.string x) := by
  have := h l.length (by simp)
  simpa using this

set_option maxHeartbeats 400000 in
theorem readSubject_none (a : Option Addr) (cap : Nat) (w : World) :
    Calls Tryz.prog 156 #[.slice a 0 cap] w fun e w' => e = .returned (.tuple #[subjV noSubj, .bool false]) ∧ Below w.heap.size w w' := by
  go_enter Tryz.func156, Tryz.ntmps156
  go_wp2
  exact bodyPost_ret (v := .tuple #[subjV noSubj, .bool false]) (by simp [results, Tryz.results156, go_sem, subjV, noSubj]) rfl ⟨rfl, (Below.refl _ _).alloc (Nat.le_refl _) _⟩

theorem readClass_is (s : ByteArray) (w : World) (c : Nat) (h : Sl.classOf s.data.toList = some c) :
    Calls Tryz.prog 71 #[.string s] w fun e w' => e = .returned (.tuple #[.int .i64 c, .bool true]) ∧ w' = w := by
  have := readClass_any s w; rw [h] at this; exact this
theorem readClass_not (s : ByteArray) (w : World) (h : Sl.classOf s.data.toList = none) :
    Calls Tryz.prog 71 #[.string s] w fun e w' => e = .returned (.tuple #[.int .i64 0, .bool false]) ∧ w' = w := by
  have := readClass_any s w; rw [h] at this; exact this

set_option maxHeartbeats 400000 in
theorem readSubject_snoc (l : List ByteArray) (x : ByteArray) (b off cap : Nat) (w : World) (hl : StrsAt w b off (l ++ [x])) (hs : ∀ s ∈ l, s.size ≤ 2000) (hn : l.length + 1 ≤ 2000) (hc : l.length + 1 ≤ cap) :
    Calls Tryz.prog 156 #[.slice (some ⟨b, off, none⟩) (l.length + 1) cap] w fun e w' => e = .returned (.tuple #[subjV ((Sl.subject (datas (l ++ [x]))).getD noSubj), .bool (Sl.subject (datas (l ++ [x]))).isSome]) ∧ Below w.heap.size w w' := by
  have hx := hl.at
  have hbz := cell_lt hx
  have gx : ∀ o, (w.alloc o).cell? ⟨b, off + l.length, none⟩ = some (.string x) := fun o => by rw [World.cell?_alloc_past _ _ _ hbz]; exact hx
  have es : Sl.subject (datas (l ++ [x])) = match Sl.classOf x.data.toList with | none => none | some c => Sl.owner (datas l) c := by
    unfold datas; rw [List.map_append]; exact subject_snoc _ _
  rw [es]
  cases hcl : Sl.classOf x.data.toList with
  | none =>
    have HC := hide hcl; clear hcl es
    have HL := hide hl; clear hl
    go_enter Tryz.func156, Tryz.ntmps156
    go_wp2_with fail
    refine (readClass_not _ _ (unhide HC)).mono ?_; rintro e w1 ⟨rfl, rfl⟩
    go_wp2
    exact bodyPost_ret (v := .tuple #[subjV noSubj, .bool false]) (by simp [results, Tryz.results156, go_sem, subjV, noSubj]) rfl ⟨rfl, (Below.refl _ _).alloc (Nat.le_refl _) _⟩
  | some c =>
    have HC := hide hcl; clear hcl es
    have HL := hide (hl.left); clear hl
    simp only []
    generalize ho : Sl.owner (datas l) c = so
    have HO := hide ho; clear ho
    go_enter Tryz.func156, Tryz.ntmps156
    go_wp2_with fail
    refine (readClass_is _ _ c (unhide HC)).mono ?_; rintro e w1 ⟨rfl, rfl⟩
    go_wp2_with fail
    refine (readOwner_any l b off cap c _ (StrsAt.below (unhide HL) ((Below.refl _ _).alloc (Nat.le_refl _) _) hbz) hs).mono ?_
    rintro e w1 ⟨rfl, hb1⟩
    rw [unhide HO]
    unfold subjV
    obtain ⟨c1, f1⟩ := bcell hb1
    have z1 : w.heap.size < w1.heap.size := by have := hb1.size; simp at this; omega
    go_wp2
    refine bodyPost_ret (v := .tuple #[subjV (so.getD noSubj), .bool so.isSome]) (by simp [results, Tryz.results156, go_sem, subjV, c1]) rfl ⟨rfl, ?_⟩
    have e1 : Below w.heap.size w w1 := ((Below.refl _ _).alloc (Nat.le_refl _) _).trans (hb1.mono (by simp))
    exact (((e1.setCell (Nat.le_refl _) _).setCell (Nat.le_refl _) _).setCell (Nat.le_refl _) _).setCell (Nat.le_refl _) _

end Go.Proofs.YthmhfilkgggagaaGreatDoor
