/-
  Text: the canonical text of a table, made once.
-/
import Derived.Test.YthmhfilkgggagaaGreatDoorOnce
namespace Go.Proofs.YthmhfilkgggagaaGreatDoor
open Go.RowKit Go.Maps Go.Sort

theorem TableAt.cells {w : World} {tb mb : Nat} {d s m : Value} {tx : List UInt8} (h : TableAt w tb mb d s m tx) :
    w.cell? ⟨tb, 0, none⟩ = some (.map (some mb)) ∧ w.cell? ⟨tb, 1, none⟩ = some d ∧ w.cell? ⟨tb, 2, none⟩ = some s ∧ w.cell? ⟨tb, 4, none⟩ = some (.string ⟨tx.toArray⟩) ∧ (∀ i, w.frozen? ⟨tb, i, none⟩ = false) ∧ tb < w.heap.size := by
  have h' : w.heap[tb]? = _ := h
  refine ⟨by simp [World.cell?, h'], by simp [World.cell?, h'], by simp [World.cell?, h'], by simp [World.cell?, h'], fun i => by simp [World.frozen?, h'], (Array.getElem?_eq_some_iff.1 h).1⟩

theorem TableAt.set1 {w : World} {tb mb : Nat} {d s m : Value} {tx : List UInt8} (h : TableAt w tb mb d s m tx) (v : Value) : TableAt (w.setCell ⟨tb, 1, none⟩ v) tb mb v s m tx := heap_setCell_at h 1 v
theorem TableAt.set2 {w : World} {tb mb : Nat} {d s m : Value} {tx : List UInt8} (h : TableAt w tb mb d s m tx) (v : Value) : TableAt (w.setCell ⟨tb, 2, none⟩ v) tb mb d v m tx := heap_setCell_at h 2 v

theorem grown_set (w : World) (tb i : Nat) (v : Value) : w.grownBy (w.setCell ⟨tb, i, none⟩ v) (some tb) := by
  refine ⟨rfl, rfl, rfl, by simp, fun j _ hne => ?_⟩
  exact Below.heap_setCell _ _ _ _ (fun e => hne (by rw [e]))

theorem grown_drew {w : World} (row : Option Nat) : w.grownBy w.drew row := ⟨rfl, rfl, rfl, Nat.le_refl _, fun _ _ _ => rfl⟩

theorem own_set {w : World} {mb n : Nat} {D : DataW Unit} (h : w.ownsMap Tryz.prog 151 limR mb n D) {tb i : Nat} (hne : mb ≠ tb) (v : Value) : (w.setCell ⟨tb, i, none⟩ v).ownsMap Tryz.prog 151 limR mb n D :=
  h.kept (grown_set w tb i v) (by simp; exact hne)

theorem env_grown {w w' : World} (h : Env w) {tb : Nat} (hg : w.grownBy w' (some tb)) (htb : 7 ≤ tb) : Env w' :=
  h.below (B := 7) ⟨hg.os, hg.tape, hg.output, hg.size, fun k hk => hg.block k (Nat.lt_of_lt_of_le hk h.size) (by simp; omega)⟩ (Nat.le_refl _)

set_option maxRecDepth 100000 in
set_option maxHeartbeats 1000000 in
theorem slow_any (l : List (Sl.Subj × Sl.Lim)) (tb mb n : Nat) (sm : Value) (tx : List UInt8) (w : World) (hT : TableAt w tb mb (.int .u32 0) (.int .i32 0) sm tx) (hown : w.ownsMap Tryz.prog 151 limR mb n (tabD l)) (hl : OkT l) (hE : Env w) (hG : 7 ≤ tb) (hne : mb ≠ tb) :
    Calls Tryz.prog 102 #[.pointer (some ⟨tb, 1, none⟩), .func (.func 69) #[.pointer (some ⟨tb, 0, none⟩)] #[]] w fun e w' => e = .returned (.tuple #[]) ∧ TableAt w' tb mb (.int .u32 1) (.int .i32 0) sm (textOf l) ∧ w.grownBy w' (some tb) := by
  obtain ⟨c0, c1, c2, c4, fz, htb⟩ := hT.cells
  have hT1 := hT.set2 (.int .i32 1)
  obtain ⟨d0, d1, d2, d4, gz, htb1⟩ := hT1.cells
  have hld := run_call_load (P := Tryz.prog) Tryz.func147 (by kernel_rfl) (by kernel_rfl) (by kernel_rfl) .u32 (by kernel_rfl) (w := w.setCell ⟨tb, 2, none⟩ (.int .i32 1)) (a := ⟨tb, 1, none⟩) (x := 0) d1
  have hnot : ∀ (x : Bool) (w : World), (Op.unary .not (.bool x)).run Tryz.prog w = .ok (.bool (!x)) w := fun _ _ => rfl
  have hwt := hide (writeText_any l tb mb n (.int .u32 0) (.int .i32 1) sm tx (w.setCell ⟨tb, 2, none⟩ (.int .i32 1)) hT1 (own_set hown hne _) hl (env_grown hE (grown_set w tb 2 _) hG))
  have hlock := hide (lock_free ⟨tb, 2, none⟩ w c2 (fz 2))
  clear hT hT1 hown hl hE d0 d2 d4 gz c0 c4
  go_enter_defers Tryz.func102, Tryz.ntmps102
  go_wp2_with fail
  refine (unhide hlock).mono ?_
  rintro e w' ⟨rfl, rfl⟩
  go_wp2_with (go_at_call 101; go_in)
  refine (unhide hwt).mono ?_
  rintro e w2 ⟨rfl, hT2, hg2⟩
  obtain ⟨e0, e1, e2, e4, ez, etb⟩ := hT2.cells
  have hT3 := hT2.set1 (.int .u32 1)
  obtain ⟨f0, f1, f2, f4, fz3, ftb⟩ := hT3.cells
  have HT3 := hide hT3; have HG2 := hide hg2
  clear hT2 hT3 hg2 e0 e2 e4 f0 f1 f4
  go_wp2
  refine leaves_cons (f := 148) (args := #[.pointer (some ⟨tb, 1, none⟩), .bool true]) (by simp) (by simp [go_sem]) ?_
  refine (store_deferred ⟨tb, 1, none⟩ (.int .u32 0) .returning _ e1 (ez 1)).mono ?_
  rintro e u' w3 ⟨rfl, rfl, rfl⟩
  refine leaves_cons (f := 50) (args := #[.pointer (some ⟨tb, 2, none⟩)]) (by simp [settle]) (by simp [go_sem]) ?_
  refine (unlock_deferred ⟨tb, 2, none⟩ _ (w2.setCell ⟨tb, 1, none⟩ (.int .u32 1)).drew f2 (fz3 2)).mono ?_
  rintro e u' w4 ⟨rfl, rfl, rfl⟩
  have hT5 : TableAt ((w2.setCell ⟨tb, 1, none⟩ (.int .u32 1)).drew.setCell ⟨tb, 2, none⟩ (.int .i32 0)) tb mb (.int .u32 1) (.int .i32 0) sm (textOf l) := TableAt.set2 (w := (w2.setCell ⟨tb, 1, none⟩ (.int .u32 1)).drew) (unhide HT3) (.int .i32 0)
  have hg5 : w.grownBy ((w2.setCell ⟨tb, 1, none⟩ (.int .u32 1)).drew.setCell ⟨tb, 2, none⟩ (.int .i32 0)) (some tb) :=
    ((((grown_set w tb 2 _).trans (unhide HG2)).trans (grown_set w2 tb 1 _)).trans (grown_drew _)).trans (grown_set _ tb 2 _)
  exact ⟨_, results_none rfl _ _ _, rfl, hT5, hg5⟩

set_option maxRecDepth 100000 in
set_option maxHeartbeats 1000000 in
theorem do_first (l : List (Sl.Subj × Sl.Lim)) (tb mb n : Nat) (sm : Value) (tx : List UInt8) (w : World) (hT : TableAt w tb mb (.int .u32 0) (.int .i32 0) sm tx) (hown : w.ownsMap Tryz.prog 151 limR mb n (tabD l)) (hl : OkT l) (hE : Env w) (hG : 7 ≤ tb) (hne : mb ≠ tb) :
    Calls Tryz.prog 68 #[.pointer (some ⟨tb, 1, none⟩), .func (.func 69) #[.pointer (some ⟨tb, 0, none⟩)] #[]] w fun e w' => e = .returned (.tuple #[]) ∧ TableAt w' tb mb (.int .u32 1) (.int .i32 0) sm (textOf l) ∧ w.grownBy w' (some tb) := by
  have hslow := hide (slow_any l tb mb n sm tx w hT hown hl hE hG hne)
  obtain ⟨c0, c1, c2, c4, fz, htb⟩ := hT.cells
  have hld := run_call_load (P := Tryz.prog) Tryz.func147 (by kernel_rfl) (by kernel_rfl) (by kernel_rfl) .u32 (by kernel_rfl) (w := w) (a := ⟨tb, 1, none⟩) (x := 0) c1
  have hnot : ∀ (x : Bool) (w : World), (Op.unary .not (.bool x)).run Tryz.prog w = .ok (.bool (!x)) w := fun _ _ => rfl
  clear hT hown hl hE
  go_enter Tryz.func68, Tryz.ntmps68
  go_wp2_with (go_at_call 101; go_in)
  refine (unhide hslow).mono ?_
  rintro e w' ⟨rfl, hT2, hg2⟩
  have H2 := hide hT2; have G2 := hide hg2; clear hT2 hg2
  go_wp2
  go_end0
  exact ⟨rfl, unhide H2, unhide G2⟩

set_option maxRecDepth 100000 in
set_option maxHeartbeats 1000000 in
theorem do_done (tb mb : Nat) (s m : Value) (tx : List UInt8) (fv : Value) (w : World) (hT : TableAt w tb mb (.int .u32 1) s m tx) :
    Calls Tryz.prog 68 #[.pointer (some ⟨tb, 1, none⟩), fv] w fun e w' => e = .returned (.tuple #[]) ∧ w' = w := by
  obtain ⟨c0, c1, c2, c4, fz, htb⟩ := hT.cells
  have hld := run_call_load (P := Tryz.prog) Tryz.func147 (by kernel_rfl) (by kernel_rfl) (by kernel_rfl) .u32 (by kernel_rfl) (w := w) (a := ⟨tb, 1, none⟩) (x := 1) c1
  have hnot : ∀ (x : Bool) (w : World), (Op.unary .not (.bool x)).run Tryz.prog w = .ok (.bool (!x)) w := fun _ _ => rfl
  clear hT
  go_enter Tryz.func68, Tryz.ntmps68
  go_wp2
  go_end0
  exact ⟨rfl, rfl⟩

/-- A table that holds what is said; its text is made, or not yet. -/
structure IsTable (w : World) (tb mb n : Nat) (l : List (Sl.Subj × Sl.Lim)) : Prop where
  cells : TableAt w tb mb (.int .u32 0) (.int .i32 0) (.int .u32 0) [] ∨ TableAt w tb mb (.int .u32 1) (.int .i32 0) (.int .u32 0) (textOf l)
  own : w.ownsMap Tryz.prog 151 limR mb n (tabD l)
  ok : OkT l
  low : 7 ≤ tb
  ne : mb ≠ tb

theorem clone_big (s : ByteArray) (w : World) (hs : s.size ≤ 281474976710656) :
    Calls Tryz.prog 70 #[.string s] w fun e w' => e = .returned (.string s) ∧ Below w.heap.size w w' := by
  go_enter Tryz.func70, Tryz.ntmps70
  go_wp2_with (go_at_call 107; refine (Tryz.stringslite_Clone _ _ hs).mono ?_; rintro e w' ⟨rfl, hb⟩)
  go_ret
  exact ⟨rfl, hb⟩

theorem textOf_len {l : List (Sl.Subj × Sl.Lim)} (h : OkT l) : (textOf l).length ≤ 10005000 := by
  have h1 := textTo_len l (sortS (l.map (·.1))) (fun t ht => lineText_len t _ (sort_mem h ht) (look_lim h t))
  have h2 : (sortS (l.map (·.1))).length ≤ 2001 := by rw [(sortS_perm _).length_eq]; simp; exact h.2.2
  unfold textOf; omega

theorem IsTable.kept {w w' : World} {tb mb n : Nat} {l : List (Sl.Subj × Sl.Lim)} (h : IsTable w tb mb n l) (hb : Below w.heap.size w w') : IsTable w' tb mb n l := by
  have htb : tb < w.heap.size := by rcases h.cells with h | h <;> exact (Array.getElem?_eq_some_iff.1 h).1
  refine ⟨?_, h.own.kept (row := none) ⟨hb.os, hb.tape, hb.output, hb.size, fun k hk _ => hb.block k hk⟩ (by simp), h.ok, h.low, h.ne⟩
  rcases h.cells with h | h
  · exact .inl ((hb.block tb htb).trans h)
  · exact .inr ((hb.block tb htb).trans h)

set_option maxRecDepth 100000 in
set_option maxHeartbeats 1000000 in
theorem text_any (l : List (Sl.Subj × Sl.Lim)) (tb mb n : Nat) (w : World) (h : IsTable w tb mb n l) (hE : Env w) :
    Calls Tryz.prog 44 #[.pointer (some ⟨tb, 0, none⟩)] w fun e w' => e = .returned (.string ⟨(textOf l).toArray⟩) ∧ IsTable w' tb mb n l ∧ w.grownBy w' (some tb) := by
  have hmf : ∀ (fn : Fn) (first cap : Array Value) (w : World), (Instr.makeFunc fn first cap).run Tryz.prog w = .ok (.func fn first cap) w := fun _ _ _ _ => rfl
  have hlen := textOf_len h.ok
  have htx : (⟨(textOf l).toArray⟩ : ByteArray).size ≤ 281474976710656 := by show (textOf l).toArray.size ≤ _; simp; omega
  have hdo : Calls Tryz.prog 68 #[.pointer (some ⟨tb, 1, none⟩), .func (.func 69) #[.pointer (some ⟨tb, 0, none⟩)] #[]] w fun e w' => e = .returned (.tuple #[]) ∧ TableAt w' tb mb (.int .u32 1) (.int .i32 0) (.int .u32 0) (textOf l) ∧ w.grownBy w' (some tb) := by
    rcases h.cells with hc | hc
    · exact do_first l tb mb n _ _ w hc h.own h.ok hE h.low h.ne
    · refine (do_done tb mb _ _ _ _ w hc).mono ?_
      rintro e w' ⟨rfl, rfl⟩
      exact ⟨rfl, hc, ⟨rfl, rfl, rfl, Nat.le_refl _, fun _ _ _ => rfl⟩⟩
  have HDO := hide hdo; have HH := hide h; clear hdo h hE
  go_enter Tryz.func44, Tryz.ntmps44
  go_wp2_with fail
  refine (unhide HDO).mono ?_
  rintro e w1 ⟨rfl, hT1, hg1⟩
  obtain ⟨c0, c1, c2, c4, fz, htb⟩ := hT1.cells
  have HT1 := hide hT1; have HG1 := hide hg1; clear hT1 hg1 c0 c1 c2
  go_wp2_with fail
  refine (clone_big _ _ htx).mono ?_
  rintro e w2 ⟨rfl, hb2⟩
  have HB2 := hide hb2; clear hb2
  go_wp2
  go_ret
  have h1 : IsTable w1 tb mb n l := ⟨.inr (unhide HT1), (unhide HH).own.kept (unhide HG1) (by simp; exact (unhide HH).ne), (unhide HH).ok, (unhide HH).low, (unhide HH).ne⟩
  have hb := unhide HB2
  exact ⟨rfl, h1.kept hb, (unhide HG1).trans ⟨hb.os, hb.tape, hb.output, hb.size, fun k hk _ => hb.block k hk⟩⟩

end Go.Proofs.YthmhfilkgggagaaGreatDoor
