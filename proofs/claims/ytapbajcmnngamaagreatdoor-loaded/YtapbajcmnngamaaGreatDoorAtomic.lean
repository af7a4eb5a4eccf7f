/-
  The atomic pointer to a table: Load hands back what Store has laid.
-/
import Derived.Test.YtapbajcmnngamaaGreatDoorText
namespace Go.Proofs.YtapbajcmnngamaaGreatDoor
open Go.RowKit Go.Maps Go.Sort

theorem load_ptr (a : Addr) (p : Option Addr) (w : World) (hc : w.cell? a = some (.pointer p)) : (callFunc 48 #[.pointer (some a)]).run Tryz.prog w = .ok (.value (.pointer p)) w := by
  rw [run_callFunc_extern Tryz.func48 (by kernel_rfl) (by kernel_rfl) (by kernel_rfl) (e := Extern.Atomic.loadT .ptr) (by kernel_rfl)]
  change (Sem.run Tryz.prog (do Extern.Atomic.read .ptr (← asAddr (.pointer (some a)))) w).andThen _ = _
  simp [Extern.Atomic.read, asAddr, hc, Result.andThen]

theorem store_ptr (a : Addr) (p : Option Addr) (u : Value) (w : World) (hc : w.cell? a = some u) (hz : w.frozen? a = false) : (callFunc 57 #[.pointer (some a), .pointer p]).run Tryz.prog w = .ok (.value (.tuple #[])) (w.setCell a (.pointer p)) := by
  rw [run_callFunc_extern Tryz.func57 (by kernel_rfl) (by kernel_rfl) (by kernel_rfl) (e := Extern.Atomic.storeT) (by kernel_rfl)]
  change (Sem.run Tryz.prog (do
    store (← asAddr (.pointer (some a))) (.pointer p) .atomic
    pure Extern.Atomic.none_) w).andThen _ = _
  simp [asAddr, hc, hz, run_store Tryz.prog w a (.pointer p) .atomic rfl, Result.andThen, Extern.Atomic.none_]

theorem lies_table : liesAt Tryz.prog Tryz.prog.depth 88 (5 / Tryz.prog.cellsOf 88) 0 88 1 = true := by kernel_rfl

/-- A sluice in memory: its one cell points at the table. -/
def SluiceAt (w : World) (sb tb : Nat) : Prop := w.heap[sb]? = some (.cells #[.pointer (some ⟨tb, 0, none⟩)] 73 (0, 0))
def SluiceNew (w : World) (sb : Nat) : Prop := w.heap[sb]? = some (.cells #[.pointer none] 73 (0, 0))

theorem SluiceAt.cell {w : World} {sb tb : Nat} (h : SluiceAt w sb tb) : w.cell? ⟨sb, 0, none⟩ = some (.pointer (some ⟨tb, 0, none⟩)) ∧ w.frozen? ⟨sb, 0, none⟩ = false ∧ sb < w.heap.size := by
  have h' : w.heap[sb]? = _ := h
  exact ⟨by simp [World.cell?, h'], by simp [World.frozen?, h'], (Array.getElem?_eq_some_iff.1 h).1⟩

theorem SluiceNew.cell {w : World} {sb : Nat} (h : SluiceNew w sb) : w.cell? ⟨sb, 0, none⟩ = some (.pointer none) ∧ w.frozen? ⟨sb, 0, none⟩ = false ∧ sb < w.heap.size := by
  have h' : w.heap[sb]? = _ := h
  exact ⟨by simp [World.cell?, h'], by simp [World.frozen?, h'], (Array.getElem?_eq_some_iff.1 h).1⟩

theorem shape_table {w : World} {tb : Nat} {cs : Array Value} (h : w.heap[tb]? = some (.cells cs 88 (0, 0))) (hz : cs.size = 5) : w.shape? tb = some (88, 5) := by
  simp [World.shape?, h, hz]

set_option maxRecDepth 100000 in
set_option maxHeartbeats 1000000 in
theorem load_any (sb tb : Nat) (w : World) (hc : w.cell? ⟨sb, 0, none⟩ = some (.pointer (some ⟨tb, 0, none⟩))) (hs : w.shape? tb = some (88, 5)) :
    Calls Tryz.prog 25 #[.pointer (some ⟨sb, 0, none⟩)] w fun e w' => e = .returned (.pointer (some ⟨tb, 0, none⟩)) ∧ w' = w := by
  have hld := load_ptr ⟨sb, 0, none⟩ _ w hc
  have hcv := Lib.run_from_unsafe (P := Tryz.prog) (src := 69) (dst := 65) (w := w) ⟨tb, 0, none⟩ Tryz.underlying69 Tryz.underlying65 rfl hs lies_table
  go_enter Tryz.func25, Tryz.ntmps25
  go_wp2
  go_ret
  exact ⟨rfl, rfl⟩

set_option maxRecDepth 100000 in
set_option maxHeartbeats 1000000 in
theorem store_any (sb tb : Nat) (u v0 : Value) (w : World) (hc : w.cell? ⟨sb, 0, none⟩ = some u) (hz : w.frozen? ⟨sb, 0, none⟩ = false) (ht : w.cell? ⟨tb, 0, none⟩ = some v0) :
    Calls Tryz.prog 30 #[.pointer (some ⟨sb, 0, none⟩), .pointer (some ⟨tb, 0, none⟩)] w fun e w' => e = .returned (.tuple #[]) ∧ w' = w.setCell ⟨sb, 0, none⟩ (.pointer (some ⟨tb, 0, none⟩)) := by
  have hst := store_ptr ⟨sb, 0, none⟩ (some ⟨tb, 0, none⟩) u w hc hz
  have hcv := run_convert_to_unsafe (P := Tryz.prog) (src := 65) (dst := 69) Tryz.underlying65 Tryz.underlying69 (by kernel_rfl) ht
  go_enter Tryz.func30, Tryz.ntmps30
  go_wp2
  go_end0
  exact ⟨rfl, rfl⟩

end Go.Proofs.YtapbajcmnngamaaGreatDoor
