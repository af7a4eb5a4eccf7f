/-
  gather at no saying; hasDefaults: are the four defaults said?
-/
import Derived.Test.YthmhfilkgggagaaGreatDoorGather
namespace Go.Proofs.YthmhfilkgggagaaGreatDoor
open Go.RowKit Go.Maps

set_option maxHeartbeats 400000 in
theorem gather_none (w : World) :
    Calls Tryz.prog 74 #[.slice none 0 0] w fun e w' => Below w.heap.size w w' ∧ e = .returned (.tuple #[.map (some w.heap.size), .int .i64 0]) ∧ w'.ownsMap Tryz.prog 151 limR w.heap.size 0 (tabD []) := by
  have hmm := makeMap_hint
  go_enter Tryz.func74, Tryz.ntmps74
  go_wp2_with fail
  go_loopw [14] (fun t wr => t = .int .i64 0 ∧ wr = w.alloc (.map #[] 0)) (fun _ _ => 0)
  case atStart => exact ⟨rfl, rfl⟩
  case round =>
    obtain ⟨rfl, rfl⟩ := hrel
    go_wp2
    go_ret2
    exact ⟨Below.alloc1 _ _, rfl, World.ownsMap_made _ _ _ _⟩

def dflt (l : List (Sl.Subj × Sl.Lim)) (k c : Nat) : Bool := (look l ⟨k, c, [], []⟩).isSome
def defaultsB (l : List (Sl.Subj × Sl.Lim)) : Bool := dflt l 0 0 && dflt l 0 1 && dflt l 1 0 && dflt l 1 1

theorem okS_default (k c : Nat) (hk : k < 2) (hc : c < 2) : OkS ⟨k, c, [], []⟩ := ⟨by show k < 4; omega, hc, by simp, by simp⟩

theorem no_default (l : List (Sl.Subj × Sl.Lim)) (k j : Nat) (hk : k < 2) (hj : j < 2) (h : dflt l k j = false) : defaultsB l = false := by
  unfold defaultsB
  match k, hk, j, hj, h with
  | 0, _, 0, _, e => rw [e]; simp
  | 0, _, 1, _, e => rw [e]; simp
  | 1, _, 0, _, e => rw [e]; simp
  | 1, _, 1, _, e => rw [e]; simp

set_option maxRecDepth 100000 in
set_option maxHeartbeats 2000000 in
theorem hasDefaults_any (l : List (Sl.Subj × Sl.Lim)) (b n : Nat) (w : World) (hown : w.ownsMap Tryz.prog 151 limR b n (tabD l)) (hl : OkL l) :
    Calls Tryz.prog 75 #[.map (some b)] w fun e w' => e = .returned (.bool (defaultsB l)) ∧ Below w.heap.size w w' := by
  have HL := hide hl; clear hl
  have hb0 := hown.lt
  have HO := hide hown; clear hown
  go_enter Tryz.func75, Tryz.ntmps75
  go_wp2_with fail
  go_loopw [11] (fun t wr => ∃ k : Nat, k ≤ 2 ∧ t = .int .i64 k ∧ Below (w.heap.size + 1) (w.alloc (.cells #[.int .i64 0, .int .i64 1] 149)) wr ∧ (1 ≤ k → dflt l 0 0 = true ∧ dflt l 0 1 = true) ∧ (2 ≤ k → dflt l 1 0 = true ∧ dflt l 1 1 = true)) (fun t _ => 2 - (intOf t).toNat)
  case atStart => exact ⟨0, by omega, rfl, Below.refl _ _, by omega, by omega⟩
  case round =>
    obtain ⟨k, hk, rfl, hbw, h1, h2⟩ := hrel
    have hwr : w.heap.size + 1 ≤ wr.heap.size := by have := hbw.size; simp at this; omega
    have H1 := hide h1; have H2 := hide h2; clear h1 h2
    by_cases hlt : k < 2
    · have hc : wr.cell? ⟨w.heap.size, k, none⟩ = some (.int .i64 k) := by
        rw [hbw.cell (p := ⟨w.heap.size, k, none⟩) (by simp)]
        rw [World.cell?_alloc_new]
        match k, hlt with
        | 0, _ => rfl
        | 1, _ => rfl
      have hown : wr.ownsMap Tryz.prog 151 limR b n (tabD l) := by
        have := ((unhide HO).alloc (.cells #[.int .i64 0, .int .i64 1] 149)).kept (row := none) ⟨hbw.os, hbw.tape, hbw.output, hbw.size, fun j hj _ => hbw.block j (by simpa using hj)⟩ (by simp)
        exact this
      have HW := hide hown; clear hown
      obtain ⟨wo, rfl⟩ : ∃ wo : World, wo = wr := ⟨_, rfl⟩
      have hdk : decide ((k : Int) < 2) = true := by simp; omega
      go_wp2_with fail
      go_loopw [17] (fun t wr => ∃ j : Nat, j ≤ 2 ∧ t = .int .i64 j ∧ Below (wo.heap.size + 1) (wo.alloc (.cells #[.int .i64 0, .int .i64 1] 116)) wr ∧ (1 ≤ j → dflt l k 0 = true) ∧ (2 ≤ j → dflt l k 1 = true)) (fun t _ => 2 - (intOf t).toNat)
      case atStart => exact ⟨0, by omega, rfl, Below.refl _ _, by omega, by omega⟩
      case round =>
        obtain ⟨j, hj, rfl, hbj, h3, h4⟩ := hrel
        have hwj : wo.heap.size + 1 ≤ wr.heap.size := by have := hbj.size; simp at this; omega
        have H3 := hide h3; have H4 := hide h4; clear h3 h4
        have hbj2 : Below (w.heap.size + 1) (w.alloc (.cells #[.int .i64 0, .int .i64 1] 149)) wr := hbw.trans (((Below.refl _ _).alloc hwr _).trans (hbj.mono (by omega)))
        by_cases hltj : j < 2
        · have hcj : wr.cell? ⟨wo.heap.size, j, none⟩ = some (.int .i64 j) := by
            rw [hbj.cell (p := ⟨wo.heap.size, j, none⟩) (by simp)]
            rw [World.cell?_alloc_new]
            match j, hltj with
            | 0, _ => rfl
            | 1, _ => rfl
          have hownj : wr.ownsMap Tryz.prog 151 limR b n (tabD l) := by
            have := ((unhide HW).alloc (.cells #[.int .i64 0, .int .i64 1] 116)).kept (row := none) ⟨hbj.os, hbj.tape, hbj.output, hbj.size, fun i hi _ => hbj.block i (by simpa using hi)⟩ (by simp)
            exact this
          have hlk : (Instr.lookup 109 (.map (some b)) (.agg #[.int .i64 k, .int .i64 j, .string ⟨#[]⟩, .string ⟨#[]⟩]) true).run Tryz.prog wr = .ok (.tuple #[.agg #[.int .i64 ((look l ⟨k, j, [], []⟩).getD noLim).rate, .int .i64 ((look l ⟨k, j, [], []⟩).getD noLim).burst], .bool (dflt l k j)]) wr :=
            look_ok hownj ⟨k, j, [], []⟩ (okS_default k j hlt hltj) (unhide HL)
          have HJ := hide hownj; clear hownj
          cases hdj : dflt l k j with
          | true =>
            rw [hdj] at hlk
            have HDJ := hide hdj; clear hdj
            go_wp2
            go_roundw
            case rel =>
              refine ⟨j + 1, by omega, by go_num, hbj.alloc hwj _, ?_, ?_⟩
              · intro _
                by_cases e : j = 0
                · rw [← e]; exact unhide HDJ
                · exact unhide H3 (by omega)
              · intro h
                have e : j = 1 := by omega
                rw [← e]; exact unhide HDJ
            case measure => simp [intOf]; omega
          | false =>
            rw [hdj] at hlk
            have hd : defaultsB l = false := no_default l k j hlt hltj hdj
            have HD := hide hd; clear hd hdj
            go_wp2
            go_ret
            exact ⟨ret_bool (unhide HD).symm, (Below.alloc1 _ _).trans ((hbj2.alloc (by omega) _).mono (Nat.le_succ _))⟩
        · have hje : j = 2 := by omega
          go_wp2
          go_roundw
          case rel =>
            refine ⟨k + 1, by omega, by go_num, hbj2, ?_, ?_⟩
            · intro _
              by_cases e : k = 0
              · rw [e] at H3 H4; exact ⟨unhide H3 (by omega), unhide H4 (by omega)⟩
              · exact unhide H1 (by omega)
            · intro h
              have e : k = 1 := by omega
              rw [e] at H3 H4; exact ⟨unhide H3 (by omega), unhide H4 (by omega)⟩
          case measure => simp [intOf]; omega
    · have hke : k = 2 := by omega
      have hd : defaultsB l = true := by
        unfold defaultsB
        obtain ⟨a1, a2⟩ := unhide H1 (by omega)
        obtain ⟨a3, a4⟩ := unhide H2 (by omega)
        rw [a1, a2, a3, a4]; rfl
      have HD := hide hd; clear hd hke
      go_wp2
      go_ret
      exact ⟨ret_bool (unhide HD).symm, (Below.alloc1 _ _).trans (hbw.mono (Nat.le_succ _))⟩

end Go.Proofs.YthmhfilkgggagaaGreatDoor
