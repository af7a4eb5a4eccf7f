/-
  front: the words of a line ahead of its rate and burst, as the canonical text has them.
-/
import Derived.Test.YthmhfilkgggagaaGreatDoorCompare
namespace Go.Proofs.YthmhfilkgggagaaGreatDoor
open Go.RowKit Go.Maps Go.Sort

def frontW (s : Sl.Subj) : List (List UInt8) :=
  if s.kind = 0 then [Sl.defaultW, Sl.orgW, Sl.classW s.cls]
  else if s.kind = 1 then [Sl.defaultW, Sl.tenantW, Sl.classW s.cls]
  else if s.kind = 2 then [Sl.orgW, s.org, Sl.classW s.cls]
  else [Sl.tenantW, s.org, s.ten, Sl.classW s.cls]

def strV (l : List (List UInt8)) : List Value := l.map fun x => .string ⟨x.toArray⟩

set_option maxHeartbeats 400000 in
theorem classString_any (c : Nat) (hc : c < 2) (w : World) :
    Calls Tryz.prog 194 #[.int .i64 c] w fun e w' => e = .returned (.string ⟨(Sl.classW c).toArray⟩) ∧ w' = w := by
  match c, hc with
  | 0, _ =>
    go_enter Tryz.func194, Tryz.ntmps194
    go_wp2
    go_ret
    exact ⟨rfl, rfl⟩
  | 1, _ =>
    go_enter Tryz.func194, Tryz.ntmps194
    go_wp2
    go_ret
    exact ⟨rfl, rfl⟩

theorem own_new (W : World) (cs : List Value) (t : TypeId) (base n : Nat) (hb : base ≤ W.heap.size) (hn : n = W.heap.size) (hl : cs.length ≤ maxLen) : (W.alloc (.cells cs.toArray t)).ownsRow base t 1 (.slice (some ⟨n, 0, none⟩) cs.length cs.length) cs.length cs := by
  subst hn
  refine ⟨by simp, .inr ⟨W.heap.size, cs.length, cs.toArray, rfl, hb, (MapKept.heap_alloc W _).1, Nat.le_refl _, hl, by simp, ?_⟩⟩
  simp

set_option maxRecDepth 100000 in
set_option maxHeartbeats 2000000 in
theorem front_any (s : Sl.Subj) (w : World) (hc : s.cls < 2) :
    Calls Tryz.prog 152 #[subjV s] w fun e w' => ∃ g, e = .returned (.slice (some ⟨g, 0, none⟩) (frontW s).length (frontW s).length) ∧ w'.ownsRow w.heap.size 9 1 (.slice (some ⟨g, 0, none⟩) (frontW s).length (frontW s).length) (frontW s).length (strV (frontW s)) ∧ Below w.heap.size w w' := by
  unfold subjV
  by_cases h0 : s.kind = 0
  · have e : frontW s = [Sl.defaultW, Sl.orgW, Sl.classW s.cls] := by unfold frontW; rw [if_pos h0]
    rw [e, h0]; clear e h0
    go_enter Tryz.func152, Tryz.ntmps152
    go_wp2_with (go_at_call 194; refine (classString_any _ hc _).mono ?_; rintro e w' ⟨rfl, rfl⟩)
    go_ret
    exact ⟨w.heap.size + 1, rfl, own_new (w.alloc _) (strV [Sl.defaultW, Sl.orgW, Sl.classW s.cls]) 9 w.heap.size _ (by simp) (by simp) (by unfold maxLen; simp [strV]), ((Below.refl _ _).alloc (Nat.le_refl _) _).alloc (by simp) _⟩
  · by_cases h1 : s.kind = 1
    · have e : frontW s = [Sl.defaultW, Sl.tenantW, Sl.classW s.cls] := by unfold frontW; rw [if_neg h0, if_pos h1]
      rw [e, h1]; clear e h0 h1
      go_enter Tryz.func152, Tryz.ntmps152
      go_wp2_with (go_at_call 194; refine (classString_any _ hc _).mono ?_; rintro e w' ⟨rfl, rfl⟩)
      go_ret
      exact ⟨w.heap.size + 1, rfl, own_new (w.alloc _) (strV [Sl.defaultW, Sl.tenantW, Sl.classW s.cls]) 9 w.heap.size _ (by simp) (by simp) (by unfold maxLen; simp [strV]), ((Below.refl _ _).alloc (Nat.le_refl _) _).alloc (by simp) _⟩
    · by_cases h2 : s.kind = 2
      · have e : frontW s = [Sl.orgW, s.org, Sl.classW s.cls] := by unfold frontW; rw [if_neg h0, if_neg h1, if_pos h2]
        rw [e, h2]; clear e h0 h1 h2
        go_enter Tryz.func152, Tryz.ntmps152
        go_wp2_with fail
        go_region_held3 (fun w' => w'.cell? ⟨w.heap.size, 1, none⟩ = some (.int .i64 s.cls) ∧ w'.cell? ⟨w.heap.size, 2, none⟩ = some (.string ⟨s.org.toArray⟩)) (go_keep)
          (first | (go_at_call 194; refine (classString_any _ hc _).mono ?_; rintro e w' ⟨rfl, rfl⟩))
        go_wp2
        go_ret
        exact ⟨w.heap.size + 1, rfl, own_new (w.alloc _) (strV [Sl.orgW, s.org, Sl.classW s.cls]) 9 w.heap.size _ (by simp) (by simp) (by unfold maxLen; simp [strV]), (((Below.refl _ _).alloc (Nat.le_refl _) _).alloc (by simp) _).drew⟩
      · have e : frontW s = [Sl.tenantW, s.org, s.ten, Sl.classW s.cls] := by unfold frontW; rw [if_neg h0, if_neg h1, if_neg h2]
        have t0 : ((s.kind : Int) == 0) = false := by rw [beq_eq_false_iff_ne]; omega
        have t1 : ((s.kind : Int) == 1) = false := by rw [beq_eq_false_iff_ne]; omega
        have t2 : ((s.kind : Int) == 2) = false := by rw [beq_eq_false_iff_ne]; omega
        rw [e]; clear e h0 h1 h2
        go_enter Tryz.func152, Tryz.ntmps152
        go_wp2_with fail
        go_region_held3 (fun w' => w'.cell? ⟨w.heap.size, 1, none⟩ = some (.int .i64 s.cls) ∧ w'.cell? ⟨w.heap.size, 2, none⟩ = some (.string ⟨s.org.toArray⟩) ∧ w'.cell? ⟨w.heap.size, 3, none⟩ = some (.string ⟨s.ten.toArray⟩)) (go_keep)
          (first | (go_at_call 194; refine (classString_any _ hc _).mono ?_; rintro e w' ⟨rfl, rfl⟩))
        go_wp2
        go_ret
        exact ⟨w.heap.size + 1, rfl, own_new (w.alloc _) (strV [Sl.tenantW, s.org, s.ten, Sl.classW s.cls]) 9 w.heap.size _ (by simp) (by simp) (by unfold maxLen; simp [strV]), (((Below.refl _ _).alloc (Nat.le_refl _) _).alloc (by simp) _).drew⟩

end Go.Proofs.YthmhfilkgggagaaGreatDoor
