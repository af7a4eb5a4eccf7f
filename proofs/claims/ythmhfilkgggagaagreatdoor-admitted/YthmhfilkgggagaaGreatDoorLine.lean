/-
  readLine and saysNothing: what a line's words say.
-/
import Derived.Test.YthmhfilkgggagaaGreatDoorSubject
namespace Go.Proofs.YthmhfilkgggagaaGreatDoor
open Go.RowKit

namespace Sl
def line (l : List (List UInt8)) : Option (Subj × Lim) := match l.reverse with
  | u :: r :: m => match subject m.reverse with
    | some s => if 0 < number 1000000 r ∧ 0 < number 1000000 u then some (s, ⟨number 1000000 r, number 1000000 u⟩) else none
    | none => none
  | _ => none
end Sl

theorem readSubject_any (l : List ByteArray) (b off cap : Nat) (w : World) (hl : StrsAt w b off l) (hs : ∀ s ∈ l, s.size ≤ 2000) (hn : l.length ≤ 2000) (hc : l.length ≤ cap) :
    Calls Tryz.prog 156 #[.slice (some ⟨b, off, none⟩) l.length cap] w fun e w' => e = .returned (.tuple #[subjV ((Sl.subject (datas l)).getD noSubj), .bool (Sl.subject (datas l)).isSome]) ∧ Below w.heap.size w w' := by
  rcases List.eq_nil_or_concat l with rfl | ⟨m, x, rfl⟩
  · exact readSubject_none _ _ _
  · rw [List.concat_eq_append] at *
    have := readSubject_snoc m x b off cap w hl (fun s h => hs s (by simp [h])) (by simpa using hn) (by simpa using hc)
    simpa using this

theorem line_eq (m : List (List UInt8)) (r u : List UInt8) : Sl.line (m ++ [r, u]) = match Sl.subject m with
    | some s => if 0 < Sl.number 1000000 r ∧ 0 < Sl.number 1000000 u then some (s, ⟨Sl.number 1000000 r, Sl.number 1000000 u⟩) else none
    | none => none := by
  simp [Sl.line]

set_option maxHeartbeats 400000 in
theorem readLine_short (a : Option Addr) (n cap : Nat) (w : World) (hn : (n : Int) < 2) :
    Calls Tryz.prog 113 #[.slice a n cap] w fun e w' => e = .returned (.tuple #[subjV noSubj, limV noLim, .bool false]) ∧ Below w.heap.size w w' := by
  go_enter Tryz.func113, Tryz.ntmps113
  go_wp2
  exact bodyPost_ret (v := .tuple #[subjV noSubj, limV noLim, .bool false]) (by simp [results, Tryz.results113, go_sem, subjV, noSubj, limV, noLim]) rfl ⟨rfl, ((Below.refl _ _).alloc (Nat.le_refl _) _).alloc (by simp) _⟩

theorem number_le (l : List UInt8) : Sl.number 1000000 l ≤ 1000000 := by
  unfold Sl.number
  split
  · omega
  · split
    · split <;> omega
    · omega

set_option maxHeartbeats 1000000 in
theorem readLine_long (m : List ByteArray) (r u : ByteArray) (b off cap : Nat) (w : World) (hl : StrsAt w b off (m ++ [r, u])) (hs : ∀ s ∈ m, s.size ≤ 2000) (hn : m.length + 2 ≤ 2000) (hc : m.length + 2 ≤ cap) :
    Calls Tryz.prog 113 #[.slice (some ⟨b, off, none⟩) (m.length + 2) cap] w fun e w' => e = .returned (.tuple #[subjV (((Sl.line (datas (m ++ [r, u]))).map (·.1)).getD noSubj), limV (((Sl.line (datas (m ++ [r, u]))).map (·.2)).getD noLim), .bool (Sl.line (datas (m ++ [r, u]))).isSome]) ∧ Below w.heap.size w w' := by
  have hr : w.cell? ⟨b, off + m.length, none⟩ = some (.string r) := hl.at
  have hu : w.cell? ⟨b, off + (m.length + 1), none⟩ = some (.string u) := by
    have := StrsAt.at (l := m ++ [r]) (r := []) (x := u) (by simpa using hl)
    simpa using this
  have hbz := cell_lt hr
  have HL := hide hl.left
  have es : Sl.line (datas (m ++ [r, u])) = match Sl.subject (datas m) with
    | some s => if 0 < Sl.number 1000000 r.data.toList ∧ 0 < Sl.number 1000000 u.data.toList then some (s, ⟨Sl.number 1000000 r.data.toList, Sl.number 1000000 u.data.toList⟩) else none
    | none => none := by
    unfold datas; rw [List.map_append]; exact line_eq _ _ _
  rw [es]
  clear es hl
  generalize ho : Sl.subject (datas m) = so
  generalize hrn : Sl.number 1000000 r.data.toList = rn
  generalize hun : Sl.number 1000000 u.data.toList = un
  have HO := hide ho; have HR := hide hrn; have HU := hide hun
  clear ho hrn hun
  go_enter Tryz.func113, Tryz.ntmps113
  go_wp2_with fail
  refine (readSubject_any m b off cap _ (StrsAt.below (unhide HL) (((Below.refl _ _).alloc (Nat.le_refl _) _).alloc (by simp) _) hbz) hs (by omega) (by omega)).mono ?_
  rintro e w1 ⟨rfl, hb1⟩
  rw [unhide HO]
  unfold subjV
  obtain ⟨c1, f1⟩ := bcell hb1
  have z1 : w.heap.size < w1.heap.size := by have := hb1.size; simp at this; omega
  have y1 : w.heap.size + 1 < w1.heap.size := by have := hb1.size; simp at this; omega
  have hr1 : w1.cell? ⟨b, off + m.length, none⟩ = some (.string r) := by
    rw [c1 _ _ (by simp; omega), World.cell?_alloc_past _ _ _ (by simp; omega), World.cell?_alloc_past _ _ _ hbz]; exact hr
  have hu1 : w1.cell? ⟨b, off + (m.length + 1), none⟩ = some (.string u) := by
    rw [c1 _ _ (by simp; omega), World.cell?_alloc_past _ _ _ (by simp; omega), World.cell?_alloc_past _ _ _ hbz]; exact hu
  have hb1z : b < w1.heap.size := by omega
  have gr : ∀ o, (w1.alloc o).cell? ⟨b, off + m.length, none⟩ = some (.string r) := fun o => by rw [World.cell?_alloc_past _ _ _ hb1z]; exact hr1
  have gu : ∀ o, (w1.alloc o).cell? ⟨b, off + (m.length + 1), none⟩ = some (.string u) := fun o => by rw [World.cell?_alloc_past _ _ _ hb1z]; exact hu1
  go_wp2_with fail
  refine (readNumber_any r 1000000 _).mono ?_
  rintro e w2 ⟨rfl, hb2⟩
  rw [unhide HR]
  obtain ⟨c2, f2⟩ := bcell hb2
  have z2 : w1.heap.size < w2.heap.size := by have := hb2.size; simp at this; omega
  have y2 : w.heap.size + 1 < w2.heap.size := by omega
  have x2 : w.heap.size < w2.heap.size := by omega
  have hu2 : w2.cell? ⟨b, off + (m.length + 1), none⟩ = some (.string u) := by rw [c2 _ _ (by simp; omega)]; exact gu _
  go_wp2_with fail
  refine (readNumber_any u 1000000 _).mono ?_
  rintro e w3 ⟨rfl, hb3⟩
  rw [unhide HU]
  obtain ⟨c3, f3⟩ := bcell hb3
  have e3 : Below w.heap.size w w3 := ((((Below.refl _ _).alloc (Nat.le_refl _) _).alloc (by simp) _).trans (hb1.mono (by simp; omega))).trans ((((Below.refl _ _).alloc (by omega) _).trans (hb2.mono (by simp; omega))).trans (hb3.mono (by omega)))
  have H3 := hide e3; clear e3
  -- the blocks of the results, and of the subject that was read, as they are now
  have qa : Four (w.alloc (.cells #[.int .i64 0, .int .i64 0, .string ⟨#[]⟩, .string ⟨#[]⟩] 151)) w.heap.size (.int .i64 0) (.int .i64 0) (.string ⟨#[]⟩) (.string ⟨#[]⟩) := Four.made w _ _ _ _ _
  have qb : Two ((w.alloc (.cells #[.int .i64 0, .int .i64 0, .string ⟨#[]⟩, .string ⟨#[]⟩] 151)).alloc (.cells #[.int .i64 0, .int .i64 0] 27)) (w.heap.size + 1) (.int .i64 0) (.int .i64 0) := by
    have := Two.made (w.alloc (.cells #[.int .i64 0, .int .i64 0, .string ⟨#[]⟩, .string ⟨#[]⟩] 151)) (.int .i64 0) (.int .i64 0) 27
    simpa using this
  have qc := Four.made w1 (.int .i64 (so.getD noSubj).kind) (.int .i64 (so.getD noSubj).cls) (.string ⟨(so.getD noSubj).org.toArray⟩) (.string ⟨(so.getD noSubj).ten.toArray⟩) 151
  have ra := Four.keep' (Four.keep' (Four.keep' (Four.keep' (Four.keep' qa (Below.alloc1 _ _) (by simp)) hb1 (by simp; omega)) (Below.alloc1 _ _) (by omega)) hb2 (by simp; omega)) hb3 (by omega)
  have rb := Two.keep (Two.keep (Two.keep (Two.keep qb hb1 (by simp)) (Below.alloc1 _ _) (by omega)) hb2 (by simp; omega)) hb3 (by omega)
  have rc := Four.keep' (Four.keep' qc hb2 (by simp)) hb3 (by omega)
  clear qa qb qc c1 c2 c3 f1 f2 f3
  have RA := hide ra; have RB := hide rb
  obtain ⟨a0, a1, a2, a3, u0, u1, u2, u3, an⟩ := ra
  obtain ⟨b0, b1, v0, v1, bn⟩ := rb
  obtain ⟨d0, d1, d2, d3, t0, t1, t2, t3, dn⟩ := rc
  cases so with
  | none =>
    go_wp2
    refine bodyPost_ret (v := .tuple #[subjV noSubj, limV noLim, .bool false]) (by simp [results, Tryz.results113, go_sem, subjV, noSubj, limV, noLim, a0, a1, a2, a3, b0, b1]) rfl ⟨rfl, ?_⟩
    exact ((((((unhide H3).setCell (Nat.le_refl _) _).setCell (Nat.le_refl _) _).setCell (Nat.le_refl _) _).setCell (Nat.le_refl _) _).setCell (Nat.le_succ _) _).setCell (Nat.le_succ _) _
  | some s =>
    by_cases hr0 : 0 < rn
    · by_cases hu0 : 0 < un
      · simp only [Option.getD_some, Option.isSome_some, hr0, hu0, decide_true] at d0 d1 d2 d3 ⊢
        go_wp2
        refine bodyPost_ret (v := .tuple #[subjV s, limV ⟨rn, un⟩, .bool true]) (by simp [results, Tryz.results113, go_sem, subjV, limV, a0, a1, a2, a3, b0, b1]) rfl ⟨rfl, ?_⟩
        exact ((((((unhide H3).setCell (Nat.le_refl _) _).setCell (Nat.le_refl _) _).setCell (Nat.le_refl _) _).setCell (Nat.le_refl _) _).setCell (Nat.le_succ _) _).setCell (Nat.le_succ _) _
      · have hu1 : un = 0 := by omega
        subst hu1
        simp only [Option.getD_some, Option.isSome_some, hr0, Nat.lt_irrefl, decide_true, decide_false] at *
        go_wp2
        refine bodyPost_ret (v := .tuple #[subjV noSubj, limV noLim, .bool false]) (by simp [results, Tryz.results113, go_sem, subjV, noSubj, limV, noLim, a0, a1, a2, a3, b0, b1]) rfl ⟨rfl, ?_⟩
        exact ((((((unhide H3).setCell (Nat.le_refl _) _).setCell (Nat.le_refl _) _).setCell (Nat.le_refl _) _).setCell (Nat.le_refl _) _).setCell (Nat.le_succ _) _).setCell (Nat.le_succ _) _
    · have hr1 : rn = 0 := by omega
      subst hr1
      simp only [Option.getD_some, Option.isSome_some, Nat.lt_irrefl, decide_false] at *
      go_wp2
      refine bodyPost_ret (v := .tuple #[subjV noSubj, limV noLim, .bool false]) (by simp [results, Tryz.results113, go_sem, subjV, noSubj, limV, noLim, a0, a1, a2, a3, b0, b1]) rfl ⟨rfl, ?_⟩
      exact ((((((unhide H3).setCell (Nat.le_refl _) _).setCell (Nat.le_refl _) _).setCell (Nat.le_refl _) _).setCell (Nat.le_refl _) _).setCell (Nat.le_succ _) _).setCell (Nat.le_succ _) _

theorem readLine_any (l : List ByteArray) (b off cap : Nat) (w : World) (hl : StrsAt w b off l) (hs : ∀ s ∈ l, s.size ≤ 2000) (hn : l.length ≤ 2000) (hc : l.length ≤ cap) :
    Calls Tryz.prog 113 #[.slice (some ⟨b, off, none⟩) l.length cap] w fun e w' => e = .returned (.tuple #[subjV (((Sl.line (datas l)).map (·.1)).getD noSubj), limV (((Sl.line (datas l)).map (·.2)).getD noLim), .bool (Sl.line (datas l)).isSome]) ∧ Below w.heap.size w w' := by
  by_cases h2 : l.length < 2
  · have e : Sl.line (datas l) = none := by
      match l, h2 with
      | [], _ => rfl
      | [_], _ => rfl
    rw [e]
    exact readLine_short _ _ _ _ (by omega)
  · obtain ⟨m, r, u, rfl⟩ : ∃ m r u, l = m ++ [r, u] := by
      rcases List.eq_nil_or_concat l with rfl | ⟨m1, u, rfl⟩
      · simp at h2
      · rcases List.eq_nil_or_concat m1 with rfl | ⟨m, r, rfl⟩
        · simp at h2
        · exact ⟨m, r, u, by simp⟩
    have e : (m ++ [r, u]).length = m.length + 2 := by simp
    rw [e]
    exact readLine_long m r u b off cap w hl (fun s h => hs s (by simp [h])) (by rw [← e]; exact hn) (by rw [← e]; exact hc)

set_option maxHeartbeats 400000 in
theorem saysNothing_none (a : Option Addr) (cap : Nat) (w : World) :
    Calls Tryz.prog 112 #[.slice a 0 cap] w fun e w' => e = .returned (.bool true) ∧ w' = w := by
  go_enter Tryz.func112, Tryz.ntmps112
  go_wp2
  go_ret
  exact ⟨rfl, rfl⟩

set_option maxHeartbeats 400000 in
theorem saysNothing_some (x : ByteArray) (n b off cap : Nat) (w : World) (h0 : w.cell? ⟨b, off, none⟩ = some (.string x)) (hn : ((n : Int) == 0) = false) (hnp : 0 < n) :
    Calls Tryz.prog 112 #[.slice (some ⟨b, off, none⟩) n cap] w fun e w' => e = .returned (.bool (Lib.hasPrefix x.data.toList [35])) ∧ w' = w := by
  go_enter Tryz.func112, Tryz.ntmps112
  go_wp2_with fail
  refine (Tryz.strings_HasPrefix _ _ _).mono ?_; rintro e w1 ⟨rfl, rfl⟩
  go_wp2
  go_ret
  exact ⟨rfl, rfl⟩

end Go.Proofs.YthmhfilkgggagaaGreatDoor
