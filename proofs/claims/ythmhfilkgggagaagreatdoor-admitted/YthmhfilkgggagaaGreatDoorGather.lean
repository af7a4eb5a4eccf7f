/-
  gather: the limit of each subject, or the line of the first twin.
-/
import Derived.Test.YthmhfilkgggagaaGreatDoorMapBase
namespace Go.Proofs.YthmhfilkgggagaaGreatDoor
open Go.RowKit Go.Maps

def gatherS : List Sl.Saying → List (Sl.Subj × Sl.Lim) → List (Sl.Subj × Sl.Lim) × Nat
  | [], acc => (acc, 0)
  | a :: r, acc => if (look acc a.about).isSome = true then ([], a.at_) else gatherS r (acc ++ [(a.about, a.lim)])

theorem zero_lim (w : World) : (zeroValue 27).run Tryz.prog w = .ok (limV noLim) w := by kernel_rfl

theorem look_ok {w : World} {b n : Nat} {l : List (Sl.Subj × Sl.Lim)} (h : w.ownsMap Tryz.prog 151 limR b n (tabD l)) (s : Sl.Subj) (hs : OkS s) (hl : OkL l) :
    (Instr.lookup 109 (.map (some b)) (subjV s) true).run Tryz.prog w = .ok (.tuple #[limV ((look l s).getD noLim), .bool (look l s).isSome]) w := by
  obtain ⟨v, ps, hrun, hv⟩ := h.look_ok law_subj Tryz.underlying109 (zero_lim w) (limR_mk noLim) (keyOf_subj s hs)
  rw [at_tabD l s hs hl] at hv
  rw [hrun, limR_inv hv, has_tabD l s hs hl]

theorem makeMap_hint (n : Int) (w : World) : (Instr.makeMap 109 (some (.int .i64 n))).run Tryz.prog w = .ok (.map (some w.heap.size)) (w.alloc (.map #[] 0)) := by
  simp [Instr.makeMap, run_underlying Tryz.underlying109, asInt, asIntOf, Result.andThen]

theorem sayAll_at : ∀ (l : List Sl.Saying) (k : Nat) (hk : k < l.length) (j : Nat), j < 7 → (sayAll l)[k * 7 + j]? = (sayCells l[k])[j]?
  | a :: r, 0, _, j, hj => by
    have : sayAll (a :: r) = sayCells a ++ sayAll r := rfl
    rw [this, List.getElem?_append_left (by simp [sayCells]; omega)]
    simp
  | a :: r, k + 1, hk, j, hj => by
    have : sayAll (a :: r) = sayCells a ++ sayAll r := rfl
    rw [this, List.getElem?_append_right (by simp [sayCells]; omega)]
    have e : (k + 1) * 7 + j - (sayCells a).length = k * 7 + j := by simp [sayCells]; omega
    rw [e, sayAll_at r k (by simpa using hk) j hj]
    simp

theorem OkL.more {l : List (Sl.Subj × Sl.Lim)} {s : Sl.Subj} {m : Sl.Lim} (h : OkL l) (hs : OkS s) (hn : look l s = none) : OkL (l ++ [(s, m)]) := by
  obtain ⟨h1, h2⟩ := h
  refine ⟨fun y hy => ?_, ?_⟩
  · rcases List.mem_append.1 hy with hy | hy
    · exact h1 y hy
    · simp at hy; subst hy; exact hs
  · rw [List.pairwise_append]
    refine ⟨h2, by simp, fun a ha b hb => ?_⟩
    simp at hb; subst hb
    intro e
    unfold look at hn
    rw [Option.map_eq_none_iff, List.find?_eq_none] at hn
    exact hn a ha ((Sl.sameS_iff _ _).2 e)

set_option maxHeartbeats 2000000 in
theorem gather_some (l : List Sl.Saying) (g cap : Nat) (w : World) (hc : ∀ j u, (sayAll l)[j]? = some u → w.cell? ⟨g, j, none⟩ = some u) (hg : g < w.heap.size) (hn : l.length ≤ 2001) (hok : ∀ a ∈ l, OkS a.about ∧ a.at_ ≠ 0) :
    Calls Tryz.prog 74 #[.slice (some ⟨g, 0, none⟩) l.length cap] w fun e w' => Below w.heap.size w w' ∧
      (((gatherS l []).2 = 0 ∧ e = .returned (.tuple #[.map (some w.heap.size), .int .i64 0]) ∧ w'.ownsMap Tryz.prog 151 limR w.heap.size l.length (tabD (gatherS l []).1) ∧ OkL (gatherS l []).1)
        ∨ ((gatherS l []).2 ≠ 0 ∧ e = .returned (.tuple #[.map none, .int .i64 (gatherS l []).2]))) := by
  have hmm := makeMap_hint
  have HC := hide hc; have HO := hide hok; clear hc hok
  go_enter Tryz.func74, Tryz.ntmps74
  go_wp2_with fail
  go_loopw [14] (fun t wr => ∃ (k : Nat) (acc : List (Sl.Subj × Sl.Lim)), k ≤ l.length ∧ t = .int .i64 k ∧ wr.ownsMap Tryz.prog 151 limR w.heap.size k (tabD acc) ∧ OkL acc ∧ Below w.heap.size w wr ∧ gatherS (l.drop k) acc = gatherS l []) (fun t _ => l.length - (intOf t).toNat)
  case atStart =>
    exact ⟨0, [], Nat.zero_le _, rfl, World.ownsMap_made _ _ _ _, ⟨by simp, List.Pairwise.nil⟩, Below.alloc1 _ _, rfl⟩
  case round =>
    obtain ⟨k, acc, hk, rfl, hown, hacc, hbw, hgs⟩ := hrel
    have hwr : w.heap.size < wr.heap.size := hown.lt
    have HG := hide hgs; clear hgs
    have HA := hide hacc; clear hacc
    by_cases hlt : k < l.length
    · have hdrop : l.drop k = l[k] :: l.drop (k + 1) := List.drop_eq_getElem_cons hlt
      have hoka : OkS l[k].about := ((unhide HO) _ (List.getElem_mem hlt)).1
      have hnz : l[k].at_ ≠ 0 := ((unhide HO) _ (List.getElem_mem hlt)).2
      have hcell : ∀ j, j < 7 → ∀ u, (sayCells l[k])[j]? = some u → wr.cell? ⟨g, k * 7 + j, none⟩ = some u := by
        intro j hj u hu
        rw [hbw.cell (p := ⟨g, k * 7 + j, none⟩) hg]
        exact unhide HC _ _ (by rw [sayAll_at l k hlt j hj]; exact hu)
      generalize hae : l[k] = a at *
      have HD := hide hdrop; have HX := hide hae; have HNZ := hide hnz; clear hdrop hae hnz
      have c0 : wr.cell? ⟨g, k * 7, none⟩ = some (.int .i64 a.at_) := hcell 0 (by omega) _ rfl
      have c1 := hcell 1 (by omega) _ rfl
      have c2 := hcell 2 (by omega) _ rfl
      have c3 := hcell 3 (by omega) _ rfl
      have c4 := hcell 4 (by omega) _ rfl
      have c5 := hcell 5 (by omega) _ rfl
      have c6 := hcell 6 (by omega) _ rfl
      clear hcell
      have hlk : ∀ o, (Instr.lookup 109 (.map (some w.heap.size)) (.agg #[.int .i64 a.about.kind, .int .i64 a.about.cls, .string ⟨a.about.org.toArray⟩, .string ⟨a.about.ten.toArray⟩]) true).run Tryz.prog (wr.alloc o) = .ok (.tuple #[.agg #[.int .i64 ((look acc a.about).getD noLim).rate, .int .i64 ((look acc a.about).getD noLim).burst], .bool (look acc a.about).isSome]) (wr.alloc o) :=
        fun o => look_ok (hown.alloc o) a.about hoka (unhide HA)
      have HOA := hide hoka; clear hoka
      cases hlo : look acc a.about with
      | some lo =>
        have hfin : gatherS l [] = ([], a.at_) := by rw [← unhide HG, unhide HD]; simp [gatherS, hlo]
        rw [hlo] at hlk
        simp only [Option.getD_some, Option.isSome_some] at hlk
        have HF := hide hfin; clear hfin hlo
        go_wp2_with fail
        go_region
        all_goals
          go_wp2
          go_ret2
          rw [unhide HF]
          exact ⟨((hbw.alloc (Nat.le_of_lt hwr) _).alloc (by simp; omega) _).drew, .inr ⟨unhide HNZ, rfl⟩⟩
      | none =>
        have hnext : gatherS (l.drop (k + 1)) (acc ++ [(a.about, a.lim)]) = gatherS l [] := by
          rw [← unhide HG, unhide HD]
          conv => rhs; unfold gatherS
          simp [hlo]
        rw [hlo] at hlk
        simp only [Option.getD_none, Option.isSome_none] at hlk
        have HN := hide hnext; have HLO := hide hlo; clear hnext hlo
        go_wp2_with (at_mapUpdate; refine wpList_mapUpdate_own _ rfl _ _ _ 109 rfl 151 27 law_subj Tryz.underlying109 limR w.heap.size k (tabD acc) rfl ((hown.alloc _).alloc _) (by unfold maxLen; omega) (subjV a.about) (limV a.lim) (kl a.about) rfl rfl (keyOf_subj _ (unhide HOA)) (limD a.lim) [] (limR_mk _) ?_; intro w1 hown1 hgrow1)
        go_roundw
        case rel =>
          refine ⟨k + 1, acc ++ [(a.about, a.lim)], by omega, by go_num, ?_, OkL.more (unhide HA) (unhide HOA) (unhide HLO), ?_, unhide HN⟩
          · rw [tabD_snoc]; exact hown1
          · exact ((hbw.alloc (Nat.le_of_lt hwr) _).alloc (by simp; omega) _).grown hgrow1 (by simp; omega) (fun j hj => by cases hj; exact Nat.le_refl _)
        case measure => simp [intOf]; omega
    · have hke : k = l.length := by omega
      have hfin : gatherS l [] = (acc, 0) := by rw [← unhide HG, hke]; simp [gatherS]
      have HF := hide hfin; clear hfin hke
      go_wp2
      go_ret2
      rw [unhide HF]
      exact ⟨hbw, .inl ⟨rfl, rfl, hown.mono hk, unhide HA⟩⟩

end Go.Proofs.YthmhfilkgggagaaGreatDoor
