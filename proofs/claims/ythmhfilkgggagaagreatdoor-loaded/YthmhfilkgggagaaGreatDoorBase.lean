/-
  What the walks share: values for subjects and limits, lists of strings in memory, small laws on worlds.
-/
import Derived.Test.YthmhfilkgggagaaGreatDoorWords
import Derived.Test.YthmhfilkgggagaaGreatDoorShelf
namespace Go.Proofs.YthmhfilkgggagaaGreatDoor
open Go.RowKit

namespace Sl
def defaultW : List UInt8 := [100, 101, 102, 97, 117, 108, 116]
def orgW : List UInt8 := [111, 114, 103]
def tenantW : List UInt8 := [116, 101, 110, 97, 110, 116]

/-- What a line speaks of. -/
structure Subj where
  kind : Nat
  cls : Nat
  org : List UInt8
  ten : List UInt8

def sameS (a b : Subj) : Bool := a.kind == b.kind && a.cls == b.cls && a.org == b.org && a.ten == b.ten
theorem sameS_iff (a b : Subj) : sameS a b = true ↔ a = b := by
  cases a; cases b; simp [sameS, and_assoc]

structure Lim where
  rate : Nat
  burst : Nat

def owner (l : List (List UInt8)) (c : Nat) : Option Subj := match l with
  | [x, y] => if x = defaultW ∧ y = orgW then some ⟨0, c, [], []⟩ else if x = defaultW ∧ y = tenantW then some ⟨1, c, [], []⟩ else if x = orgW ∧ isName y = true then some ⟨2, c, y, []⟩ else none
  | [x, y, z] => if x = tenantW ∧ isName y = true ∧ isName z = true then some ⟨3, c, y, z⟩ else none
  | _ => none
end Sl

def S (l : List UInt8) : Value := .string ⟨l.toArray⟩
def subjV (s : Sl.Subj) : Value := .agg #[.int .i64 s.kind, .int .i64 s.cls, .string ⟨s.org.toArray⟩, .string ⟨s.ten.toArray⟩]
def limV (l : Sl.Lim) : Value := .agg #[.int .i64 l.rate, .int .i64 l.burst]
def noSubj : Sl.Subj := ⟨0, 0, [], []⟩
def noLim : Sl.Lim := ⟨0, 0⟩

theorem bcell {W w1 : World} (hb : Below W.heap.size W w1) : (∀ b o, b < W.heap.size → w1.cell? ⟨b, o, none⟩ = W.cell? ⟨b, o, none⟩) ∧ (∀ b o, b < W.heap.size → w1.frozen? ⟨b, o, none⟩ = W.frozen? ⟨b, o, none⟩) :=
  ⟨fun b o h => hb.cell (p := ⟨b, o, none⟩) h, fun b o h => hb.frozen (p := ⟨b, o, none⟩) h⟩

theorem cell_lt {w : World} {b o : Nat} {v : Value} (h : w.cell? ⟨b, o, none⟩ = some v) : b < w.heap.size := by
  unfold World.cell? at h
  by_cases hb : b < w.heap.size
  · exact hb
  · simp [Array.getElem?_eq_none (Nat.le_of_not_lt hb)] at h

/-- Block n holds these four cells, none of them frozen. -/
def Four (w : World) (n : Nat) (a b c d : Value) : Prop :=
  w.cell? ⟨n, 0, none⟩ = some a ∧ w.cell? ⟨n, 1, none⟩ = some b ∧ w.cell? ⟨n, 2, none⟩ = some c ∧ w.cell? ⟨n, 3, none⟩ = some d ∧ w.frozen? ⟨n, 0, none⟩ = false ∧ w.frozen? ⟨n, 1, none⟩ = false ∧ w.frozen? ⟨n, 2, none⟩ = false ∧ w.frozen? ⟨n, 3, none⟩ = false ∧ n < w.heap.size

theorem Four.made (w : World) (a b c d : Value) (t : TypeId) : Four (w.alloc (.cells #[a, b, c, d] t)) w.heap.size a b c d := by
  refine ⟨?_, ?_, ?_, ?_, ?_, ?_, ?_, ?_, ?_⟩ <;> simp [go_sem]

theorem Four.keep {W w : World} {n : Nat} {a b c d : Value} (h : Four W n a b c d) (hb : Below W.heap.size W w) : Four w n a b c d := by
  obtain ⟨h0, h1, h2, h3, f0, f1, f2, f3, hn⟩ := h
  obtain ⟨c1, g1⟩ := bcell hb
  exact ⟨(c1 _ _ hn).trans h0, (c1 _ _ hn).trans h1, (c1 _ _ hn).trans h2, (c1 _ _ hn).trans h3, (g1 _ _ hn).trans f0, (g1 _ _ hn).trans f1, (g1 _ _ hn).trans f2, (g1 _ _ hn).trans f3, Nat.lt_of_lt_of_le hn hb.size⟩

/-- Block n holds these two cells, none of them frozen. -/
def Two (w : World) (n : Nat) (a b : Value) : Prop :=
  w.cell? ⟨n, 0, none⟩ = some a ∧ w.cell? ⟨n, 1, none⟩ = some b ∧ w.frozen? ⟨n, 0, none⟩ = false ∧ w.frozen? ⟨n, 1, none⟩ = false ∧ n < w.heap.size

theorem Two.made (w : World) (a b : Value) (t : TypeId) : Two (w.alloc (.cells #[a, b] t)) w.heap.size a b := by
  refine ⟨?_, ?_, ?_, ?_, ?_⟩ <;> simp [go_sem]

theorem Two.keep {W w : World} {n : Nat} {a b : Value} (h : Two W n a b) {B : Nat} (hb : Below B W w) (hB : n < B) : Two w n a b := by
  obtain ⟨h0, h1, f0, f1, hn⟩ := h
  exact ⟨(hb.cell (p := ⟨n, 0, none⟩) hB).trans h0, (hb.cell (p := ⟨n, 1, none⟩) hB).trans h1, (hb.frozen (p := ⟨n, 0, none⟩) hB).trans f0, (hb.frozen (p := ⟨n, 1, none⟩) hB).trans f1, Nat.lt_of_lt_of_le hn hb.size⟩

theorem Four.keep' {W w : World} {n : Nat} {a b c d : Value} (h : Four W n a b c d) {B : Nat} (hb : Below B W w) (hB : n < B) : Four w n a b c d := by
  obtain ⟨h0, h1, h2, h3, f0, f1, f2, f3, hn⟩ := h
  exact ⟨(hb.cell (p := ⟨n, 0, none⟩) hB).trans h0, (hb.cell (p := ⟨n, 1, none⟩) hB).trans h1, (hb.cell (p := ⟨n, 2, none⟩) hB).trans h2, (hb.cell (p := ⟨n, 3, none⟩) hB).trans h3, (hb.frozen (p := ⟨n, 0, none⟩) hB).trans f0, (hb.frozen (p := ⟨n, 1, none⟩) hB).trans f1, (hb.frozen (p := ⟨n, 2, none⟩) hB).trans f2, (hb.frozen (p := ⟨n, 3, none⟩) hB).trans f3, Nat.lt_of_lt_of_le hn hb.size⟩

theorem Below.alloc1 (w : World) (o : Obj) : Below w.heap.size w (w.alloc o) := (Below.refl _ _).alloc (Nat.le_refl _) _

theorem Four.drew {w : World} {n : Nat} {a b c d : Value} (h : Four w n a b c d) : Four w.drew n a b c d := h

set_option maxHeartbeats 400000 in
theorem clone_any (s : ByteArray) (w : World) (hs : s.size ≤ 2000) :
    Calls Tryz.prog 70 #[.string s] w fun e w' => e = .returned (.string s) ∧ Below w.heap.size w w' := by
  go_enter Tryz.func70, Tryz.ntmps70
  go_wp2_with (go_at_call 107; refine (Tryz.stringslite_Clone _ _ (by omega)).mono ?_; rintro e w' ⟨rfl, hb⟩)
  go_ret
  exact ⟨rfl, hb⟩

end Go.Proofs.YthmhfilkgggagaaGreatDoor
