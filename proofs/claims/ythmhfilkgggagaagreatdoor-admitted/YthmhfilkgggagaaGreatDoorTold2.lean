/-
  The limits of a plan's buckets.
-/
import Derived.Test.YthmhfilkgggagaaGreatDoorTold1
namespace Go.Proofs.YthmhfilkgggagaaGreatDoor
open Go.RowKit Go.Maps Go.Sort

def limTen (p : Nat → Sl.Lim) (c o t : Nat) : Sl.Lim := if 0 < (p (8 + 4 * o + 2 * t + c)).rate then p (8 + 4 * o + 2 * t + c) else p (2 + c)
def limOrg (p : Nat → Sl.Lim) (c o : Nat) : Sl.Lim := if 0 < (p (4 + 2 * o + c)).rate then p (4 + 2 * o + c) else p c

theorem pc_at (p : Nat → Sl.Lim) (i off : Nat) (ho : off = 2 * i) (hi : i < 16) : (pc p)[off]? = some (.int .i64 (p i).rate) ∧ (pc p)[off + 1]? = some (.int .i64 (p i).burst) := by
  subst ho
  match i, hi with
  | 0, _ => exact ⟨rfl, rfl⟩
  | 1, _ => exact ⟨rfl, rfl⟩
  | 2, _ => exact ⟨rfl, rfl⟩
  | 3, _ => exact ⟨rfl, rfl⟩
  | 4, _ => exact ⟨rfl, rfl⟩
  | 5, _ => exact ⟨rfl, rfl⟩
  | 6, _ => exact ⟨rfl, rfl⟩
  | 7, _ => exact ⟨rfl, rfl⟩
  | 8, _ => exact ⟨rfl, rfl⟩
  | 9, _ => exact ⟨rfl, rfl⟩
  | 10, _ => exact ⟨rfl, rfl⟩
  | 11, _ => exact ⟨rfl, rfl⟩
  | 12, _ => exact ⟨rfl, rfl⟩
  | 13, _ => exact ⟨rfl, rfl⟩
  | 14, _ => exact ⟨rfl, rfl⟩
  | 15, _ => exact ⟨rfl, rfl⟩
  | n + 16, h => exact absurd h (by omega)

set_option maxRecDepth 100000 in
set_option maxHeartbeats 4000000 in
theorem planLimits_any (p : Nat → Sl.Lim) (c o t : Nat) (w : World) (hc : c < 2) (ho : o < 2) (ht : t < 2) :
    Calls Tryz.prog 21 #[.agg (pc p), .int .i64 c, .int .i64 o, .int .i64 t] w fun e w' => e = .returned (.tuple #[limV (limTen p c o t), limV (limOrg p c o)]) ∧ Below w.heap.size w w' := by
  obtain ⟨a0, a1⟩ := pc_at p (2 + c) (4 + c * 2) (by omega) (by omega)
  obtain ⟨b0, b1⟩ := pc_at p (8 + 4 * o + 2 * t + c) (16 + o * 8 + t * 4 + c * 2) (by omega) (by omega)
  obtain ⟨c0, c1⟩ := pc_at p c (c * 2) (by omega) (by omega)
  obtain ⟨d0, d1⟩ := pc_at p (4 + 2 * o + c) (8 + o * 4 + c * 2) (by omega) (by omega)
  have hic : (c : Int) < 2 := by omega
  have hio : (o : Int) < 2 := by omega
  have hit : (t : Int) < 2 := by omega
  have hlt := show limTen p c o t = if 0 < (p (8 + 4 * o + 2 * t + c)).rate then p (8 + 4 * o + 2 * t + c) else p (2 + c) from rfl
  have hlo := show limOrg p c o = if 0 < (p (4 + 2 * o + c)).rate then p (4 + 2 * o + c) else p c from rfl
  generalize limTen p c o t = lt at *
  generalize limOrg p c o = lo at *
  generalize p (8 + 4 * o + 2 * t + c) = pt at *
  generalize p (4 + 2 * o + c) = po at *
  generalize p (2 + c) = qt at *
  generalize p c = qo at *
  generalize pc p = arr at *
  by_cases h1 : 0 < pt.rate
  · have i1 : (0 : Int) < pt.rate := by omega
    rw [if_pos h1] at hlt
    subst hlt
    by_cases h2 : 0 < po.rate
    · have i2 : (0 : Int) < po.rate := by omega
      rw [if_pos h2] at hlo
      subst hlo
      clear h1 h2
      go_enter Tryz.func21, Tryz.ntmps21
      go_wp2_with fail
      go_region
      all_goals
        go_wp2
        refine bodyPost_ret (v := .tuple #[limV lt, limV lo]) (by simp [results, Tryz.results21, go_sem, limV]) rfl ⟨rfl, ?_⟩
        exact (((((Below.alloc1 w _).alloc (by simp) _).alloc (by simp; omega) _).alloc (by simp; omega) _).alloc (by simp; omega) _).drew
    · have i2 : ¬ (0 : Int) < po.rate := by omega
      rw [if_neg h2] at hlo
      subst hlo
      clear h1 h2
      go_enter Tryz.func21, Tryz.ntmps21
      go_wp2_with fail
      go_region
      all_goals
        go_wp2
        refine bodyPost_ret (v := .tuple #[limV lt, limV lo]) (by simp [results, Tryz.results21, go_sem, limV]) rfl ⟨rfl, ?_⟩
        exact (((((Below.alloc1 w _).alloc (by simp) _).alloc (by simp; omega) _).alloc (by simp; omega) _).alloc (by simp; omega) _).drew
  · have i1 : ¬ (0 : Int) < pt.rate := by omega
    rw [if_neg h1] at hlt
    subst hlt
    by_cases h2 : 0 < po.rate
    · have i2 : (0 : Int) < po.rate := by omega
      rw [if_pos h2] at hlo
      subst hlo
      clear h1 h2
      go_enter Tryz.func21, Tryz.ntmps21
      go_wp2_with fail
      go_region
      all_goals
        go_wp2
        refine bodyPost_ret (v := .tuple #[limV lt, limV lo]) (by simp [results, Tryz.results21, go_sem, limV]) rfl ⟨rfl, ?_⟩
        exact (((((Below.alloc1 w _).alloc (by simp) _).alloc (by simp; omega) _).alloc (by simp; omega) _).alloc (by simp; omega) _).drew
    · have i2 : ¬ (0 : Int) < po.rate := by omega
      rw [if_neg h2] at hlo
      subst hlo
      clear h1 h2
      go_enter Tryz.func21, Tryz.ntmps21
      go_wp2_with fail
      go_region
      all_goals
        go_wp2
        refine bodyPost_ret (v := .tuple #[limV lt, limV lo]) (by simp [results, Tryz.results21, go_sem, limV]) rfl ⟨rfl, ?_⟩
        exact (((((Below.alloc1 w _).alloc (by simp) _).alloc (by simp; omega) _).alloc (by simp; omega) _).alloc (by simp; omega) _).drew

end Go.Proofs.YthmhfilkgggagaaGreatDoor
