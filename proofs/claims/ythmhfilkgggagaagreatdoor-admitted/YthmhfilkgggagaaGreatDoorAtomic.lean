/-
  The atomic pointer to a table: Load hands back what Store has laid.
-/
import Derived.Test.YthmhfilkgggagaaGreatDoorText
namespace Go.Proofs.YthmhfilkgggagaaGreatDoor
open Go.RowKit Go.Maps Go.Sort

theorem load_ptr (a : Addr) (p : Option Addr) (w : World) (hc : w.cell? a = some (.pointer p)) : (callFunc 67 #[.pointer (some a)]).run Tryz.prog w = .ok (.value (.pointer p)) w := by
  rw [run_callFunc_extern Tryz.func67 (by kernel_rfl) (by kernel_rfl) (by kernel_rfl) (e := Extern.Atomic.loadT .ptr) (by kernel_rfl)]
  change (Sem.run Tryz.prog (do Extern.Atomic.read .ptr (← asAddr (.pointer (some a)))) w).andThen _ = _
  simp [Extern.Atomic.read, asAddr, hc, Result.andThen]

theorem store_ptr (a : Addr) (p : Option Addr) (u : Value) (w : World) (hc : w.cell? a = some u) (hz : w.frozen? a = false) : (callFunc 76 #[.pointer (some a), .pointer p]).run Tryz.prog w = .ok (.value (.tuple #[])) (w.setCell a (.pointer p)) := by
  rw [run_callFunc_extern Tryz.func76 (by kernel_rfl) (by kernel_rfl) (by kernel_rfl) (e := Extern.Atomic.storeT) (by kernel_rfl)]
  change (Sem.run Tryz.prog (do
    store (← asAddr (.pointer (some a))) (.pointer p) .atomic
    pure Extern.Atomic.none_) w).andThen _ = _
  simp [asAddr, hc, hz, run_store Tryz.prog w a (.pointer p) .atomic rfl, Result.andThen, Extern.Atomic.none_]

theorem lies_table : liesAt Tryz.prog Tryz.prog.depth 115 (5 / Tryz.prog.cellsOf 115) 0 115 1 = true := by kernel_rfl

/-- A sluice in memory: the pointer at the table, the lock, the time, the levels. -/
def SlAt (w : World) (sb : Nat) (p st tm lv : Value) : Prop := w.heap[sb]? = some (.cells #[p, st, .int .u32 0, tm, lv] 106 (0, 0))

theorem SlAt.lt {w : World} {sb : Nat} {p st tm lv : Value} (h : SlAt w sb p st tm lv) : sb < w.heap.size := (Array.getElem?_eq_some_iff.1 h).1
theorem SlAt.cells {w : World} {sb : Nat} {p st tm lv : Value} (h : SlAt w sb p st tm lv) : w.cell? ⟨sb, 0, none⟩ = some p ∧ w.cell? ⟨sb, 1, none⟩ = some st ∧ w.cell? ⟨sb, 3, none⟩ = some tm ∧ w.cell? ⟨sb, 4, none⟩ = some lv ∧ ∀ i, w.frozen? ⟨sb, i, none⟩ = false := by
  have h' : w.heap[sb]? = _ := h
  refine ⟨?_, ?_, ?_, ?_, fun i => ?_⟩ <;> simp [World.cell?, World.frozen?, h']
theorem SlAt.set0 {w : World} {sb : Nat} {p st tm lv : Value} (h : SlAt w sb p st tm lv) (u : Value) : SlAt (w.setCell ⟨sb, 0, none⟩ u) sb u st tm lv := heap_setCell_at h 0 u
theorem SlAt.set1 {w : World} {sb : Nat} {p st tm lv : Value} (h : SlAt w sb p st tm lv) (u : Value) : SlAt (w.setCell ⟨sb, 1, none⟩ u) sb p u tm lv := heap_setCell_at h 1 u
theorem SlAt.set3 {w : World} {sb : Nat} {p st tm lv : Value} (h : SlAt w sb p st tm lv) (u : Value) : SlAt (w.setCell ⟨sb, 3, none⟩ u) sb p st u lv := heap_setCell_at h 3 u
theorem SlAt.set4 {w : World} {sb : Nat} {p st tm lv : Value} (h : SlAt w sb p st tm lv) (u : Value) : SlAt (w.setCell ⟨sb, 4, none⟩ u) sb p st tm u := heap_setCell_at h 4 u
theorem SlAt.grown {w w' : World} {sb : Nat} {p st tm lv : Value} {row : Option Nat} (h : SlAt w sb p st tm lv) (hg : w.grownBy w' row) (hne : some sb ≠ row) : SlAt w' sb p st tm lv := (hg.block sb h.lt hne).trans h

theorem shape_table {w : World} {tb : Nat} {cs : Array Value} (h : w.heap[tb]? = some (.cells cs 115 (0, 0))) (hz : cs.size = 5) : w.shape? tb = some (115, 5) := by
  simp [World.shape?, h, hz]

set_option maxRecDepth 100000 in
set_option maxHeartbeats 1000000 in
theorem load_any (sb tb : Nat) (w : World) (hc : w.cell? ⟨sb, 0, none⟩ = some (.pointer (some ⟨tb, 0, none⟩))) (hs : w.shape? tb = some (115, 5)) :
    Calls Tryz.prog 43 #[.pointer (some ⟨sb, 0, none⟩)] w fun e w' => e = .returned (.pointer (some ⟨tb, 0, none⟩)) ∧ w' = w := by
  have hld := load_ptr ⟨sb, 0, none⟩ _ w hc
  have hcv := Lib.run_from_unsafe (P := Tryz.prog) (src := 96) (dst := 92) (w := w) ⟨tb, 0, none⟩ Tryz.underlying96 Tryz.underlying92 rfl hs lies_table
  go_enter Tryz.func43, Tryz.ntmps43
  go_wp2
  go_ret
  exact ⟨rfl, rfl⟩

set_option maxRecDepth 100000 in
set_option maxHeartbeats 1000000 in
theorem store_any (sb tb : Nat) (u v0 : Value) (w : World) (hc : w.cell? ⟨sb, 0, none⟩ = some u) (hz : w.frozen? ⟨sb, 0, none⟩ = false) (ht : w.cell? ⟨tb, 0, none⟩ = some v0) :
    Calls Tryz.prog 48 #[.pointer (some ⟨sb, 0, none⟩), .pointer (some ⟨tb, 0, none⟩)] w fun e w' => e = .returned (.tuple #[]) ∧ w' = w.setCell ⟨sb, 0, none⟩ (.pointer (some ⟨tb, 0, none⟩)) := by
  have hst := store_ptr ⟨sb, 0, none⟩ (some ⟨tb, 0, none⟩) u w hc hz
  have hcv := run_convert_to_unsafe (P := Tryz.prog) (src := 92) (dst := 96) Tryz.underlying92 Tryz.underlying96 (by kernel_rfl) ht
  go_enter Tryz.func48, Tryz.ntmps48
  go_wp2
  go_end0
  exact ⟨rfl, rfl⟩

end Go.Proofs.YthmhfilkgggagaaGreatDoor
