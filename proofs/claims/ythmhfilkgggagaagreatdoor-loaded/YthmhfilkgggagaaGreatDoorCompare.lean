/-
  compareSubjects: the order of the canonical text.
-/
import Derived.Test.YthmhfilkgggagaaGreatDoorRead
import Derived.Deep.RegionHeld3
import Derived.Sort.Grow
namespace Go.Proofs.YthmhfilkgggagaaGreatDoor
open Go.RowKit Go.Maps Go.Sort

def cmpI (x y : Int) : Int := if x < y then -1 else if y < x then 1 else 0
def cmpB (a b : List UInt8) : Int := if Op.bytesLess a b = true then -1 else if Op.bytesLess b a = true then 1 else 0

theorem ret_i64 {a b : Int} (h : a = b) : Ending.returned (.int .i64 a) = .returned (.int .i64 b) := by rw [h]

set_option maxHeartbeats 400000 in
theorem cmpKind_any (x y : Int) (w : World) : Calls Tryz.prog 190 #[.int .i64 x, .int .i64 y] w fun e w' => e = .returned (.int .i64 (cmpI x y)) ∧ w' = w := by
  by_cases h1 : x < y
  · have e : cmpI x y = -1 := by unfold cmpI; rw [if_pos h1]
    rw [e]; clear e
    go_enter Tryz.func190, Tryz.ntmps190
    go_wp2
    go_ret
    exact ⟨rfl, rfl⟩
  · by_cases h2 : y < x
    · have e : cmpI x y = 1 := by unfold cmpI; rw [if_neg h1, if_pos h2]
      rw [e]; clear e
      go_enter Tryz.func190, Tryz.ntmps190
      go_wp2
      go_ret
      exact ⟨rfl, rfl⟩
    · have e : cmpI x y = 0 := by unfold cmpI; rw [if_neg h1, if_neg h2]
      rw [e]; clear e
      go_enter Tryz.func190, Tryz.ntmps190
      go_wp2
      go_ret
      exact ⟨rfl, rfl⟩

set_option maxHeartbeats 400000 in
theorem cmpClass_any (x y : Int) (w : World) : Calls Tryz.prog 192 #[.int .i64 x, .int .i64 y] w fun e w' => e = .returned (.int .i64 (cmpI x y)) ∧ w' = w := by
  by_cases h1 : x < y
  · have e : cmpI x y = -1 := by unfold cmpI; rw [if_pos h1]
    rw [e]; clear e
    go_enter Tryz.func192, Tryz.ntmps192
    go_wp2
    go_ret
    exact ⟨rfl, rfl⟩
  · by_cases h2 : y < x
    · have e : cmpI x y = 1 := by unfold cmpI; rw [if_neg h1, if_pos h2]
      rw [e]; clear e
      go_enter Tryz.func192, Tryz.ntmps192
      go_wp2
      go_ret
      exact ⟨rfl, rfl⟩
    · have e : cmpI x y = 0 := by unfold cmpI; rw [if_neg h1, if_neg h2]
      rw [e]; clear e
      go_enter Tryz.func192, Tryz.ntmps192
      go_wp2
      go_ret
      exact ⟨rfl, rfl⟩

theorem less_irrefl : ∀ l : List UInt8, Op.bytesLess l l = false
  | [] => rfl
  | x :: r => by simp [Op.bytesLess, less_irrefl r]

theorem less_total : ∀ a b : List UInt8, Op.bytesLess a b = false → Op.bytesLess b a = false → a = b
  | [], [], _, _ => rfl
  | [], _ :: _, h, _ => by simp [Op.bytesLess] at h
  | _ :: _, [], _, h => by simp [Op.bytesLess] at h
  | x :: r, y :: t, h1, h2 => by
    simp only [Op.bytesLess, Bool.or_eq_false_iff, decide_eq_false_iff_not, Bool.and_eq_false_iff, beq_eq_false_iff_ne] at h1 h2
    have e : x = y := UInt8.le_antisymm (UInt8.not_lt.1 h2.1) (UInt8.not_lt.1 h1.1)
    subst e
    have h3 : Op.bytesLess r t = false := by rcases h1.2 with h | h; exact absurd rfl h; exact h
    have h4 : Op.bytesLess t r = false := by rcases h2.2 with h | h; exact absurd rfl h; exact h
    rw [less_total r t h3 h4]

set_option maxHeartbeats 400000 in
theorem cmpStr_any (a b : ByteArray) (w : World) : Calls Tryz.prog 191 #[.string a, .string b] w fun e w' => e = .returned (.int .i64 (cmpB a.data.toList b.data.toList)) ∧ w' = w := by
  cases h1 : Op.bytesLess a.data.toList b.data.toList with
  | true =>
    have e : cmpB a.data.toList b.data.toList = -1 := by unfold cmpB; rw [if_pos h1]
    have t1 : Op.bytesLess a.toList b.toList = true := by rw [ByteArray.toList_eq, ByteArray.toList_eq]; exact h1
    rw [e]; clear e h1
    go_enter Tryz.func191, Tryz.ntmps191
    go_wp2
    go_ret
    exact ⟨rfl, rfl⟩
  | false =>
    have t1 : Op.bytesLess a.toList b.toList = false := by rw [ByteArray.toList_eq, ByteArray.toList_eq]; exact h1
    by_cases h2 : a.data.toList = b.data.toList
    · have e : cmpB a.data.toList b.data.toList = 0 := by unfold cmpB; rw [h2, less_irrefl]; simp
      have t2 : (a.toList == b.toList) = true := by rw [Sl.str_eq]; exact decide_eq_true h2
      rw [e]; clear e h1 h2
      go_enter Tryz.func191, Tryz.ntmps191
      go_wp2
      go_ret
      exact ⟨rfl, rfl⟩
    · have e : cmpB a.data.toList b.data.toList = 1 := by
        unfold cmpB
        rw [if_neg (by rw [h1]; simp)]
        cases h3 : Op.bytesLess b.data.toList a.data.toList with
        | true => rfl
        | false => exact absurd (less_total _ _ h1 h3) h2
      have t2 : (a.toList == b.toList) = false := by rw [Sl.str_eq]; exact decide_eq_false h2
      rw [e]; clear e h1 h2
      go_enter Tryz.func191, Tryz.ntmps191
      go_wp2
      go_ret
      exact ⟨rfl, rfl⟩

/-- The first that is not nought. -/
def orI : List Int → Int
  | [] => 0
  | x :: r => if x = 0 then orI r else x

set_option maxRecDepth 100000 in
set_option maxHeartbeats 1000000 in
theorem or_any (l : List Int) (b cap : Nat) (w : World) (hc : ∀ i (h : i < l.length), w.cell? ⟨b, i, none⟩ = some (.int .i64 l[i])) (hn : l.length ≤ 1000) :
    Calls Tryz.prog 189 #[.slice (some ⟨b, 0, none⟩) l.length cap] w fun e w' => e = .returned (.int .i64 (orI l)) ∧ w' = w := by
  have HC := hide hc; clear hc
  go_enter Tryz.func189, Tryz.ntmps189
  go_wp2
  go_loop [8] (fun t => ∃ k : Nat, k ≤ l.length ∧ t = .int .i64 k ∧ orI (l.drop k) = orI l) (fun t => l.length - (intOf t).toNat)
  case atStart => exact ⟨0, Nat.zero_le _, rfl, rfl⟩
  case round =>
    obtain ⟨k, hk, rfl, ho⟩ := hrel
    have HO := hide ho; clear ho
    by_cases hlt : k < l.length
    · have hck := unhide HC k hlt
      have hd : l.drop k = l[k] :: l.drop (k + 1) := List.drop_eq_getElem_cons hlt
      generalize l[k] = x at *
      by_cases hx : x = 0
      · subst hx
        have hnext : orI (l.drop (k + 1)) = orI l := by rw [← unhide HO, hd]; simp [orI]
        have HN := hide hnext; clear hnext hd
        go_wp2
        go_round
        case rel => exact ⟨k + 1, by omega, by go_num, unhide HN⟩
        case measure => simp [intOf]; omega
      · have hfin : orI l = x := by rw [← unhide HO, hd]; simp [orI, hx]
        have HF := hide hfin; clear hfin hd
        have hx2 : (x != 0) = true := by simpa using hx
        go_wp2
        go_ret
        exact ⟨ret_i64 (unhide HF).symm, rfl⟩
    · have hfin : orI l = 0 := by rw [← unhide HO, List.drop_eq_nil_of_le (by omega)]; rfl
      have HF := hide hfin; clear hfin
      go_wp2
      go_ret
      exact ⟨ret_i64 (unhide HF).symm, rfl⟩

theorem alloc3_grow (w : World) (a b c : Obj) : (((w.alloc a).alloc b).alloc c).drew = grow (w.drewN 1) #[a, b, c] := by
  rw [alloc_eq_grow, alloc_eq_grow, alloc_eq_grow, grow_grow, grow_grow, drew_grow]; rfl

def cmpSubj (a b : Sl.Subj) : Int := orI [cmpI a.kind b.kind, cmpB a.org b.org, cmpB a.ten b.ten, cmpI a.cls b.cls]

set_option maxRecDepth 100000 in
set_option maxHeartbeats 4000000 in
theorem compare_any (a b : Sl.Subj) (w : World) :
    Calls Tryz.prog 150 #[subjV a, subjV b] w fun e w' => e = .returned (.int .i64 (cmpSubj a b)) ∧ ∃ q os, w' = grow (w.drewN q) os := by
  unfold subjV
  go_enter Tryz.func150, Tryz.ntmps150
  go_wp2_with fail
  go_region_held3 (fun w' => w'.cell? ⟨w.heap.size, 0, none⟩ = some (.int .i64 a.kind) ∧ w'.cell? ⟨w.heap.size, 1, none⟩ = some (.int .i64 a.cls) ∧ w'.cell? ⟨w.heap.size, 2, none⟩ = some (.string ⟨a.org.toArray⟩) ∧ w'.cell? ⟨w.heap.size, 3, none⟩ = some (.string ⟨a.ten.toArray⟩) ∧
      w'.cell? ⟨w.heap.size + 1, 0, none⟩ = some (.int .i64 b.kind) ∧ w'.cell? ⟨w.heap.size + 1, 1, none⟩ = some (.int .i64 b.cls) ∧ w'.cell? ⟨w.heap.size + 1, 2, none⟩ = some (.string ⟨b.org.toArray⟩) ∧ w'.cell? ⟨w.heap.size + 1, 3, none⟩ = some (.string ⟨b.ten.toArray⟩)) (go_keep)
    (first
      | (go_at_call 190; refine (cmpKind_any _ _ _).mono ?_; rintro e w' ⟨rfl, rfl⟩)
      | (go_at_call 191; refine (cmpStr_any _ _ _).mono ?_; rintro e w' ⟨rfl, rfl⟩)
      | (go_at_call 192; refine (cmpClass_any _ _ _).mono ?_; rintro e w' ⟨rfl, rfl⟩)
      | (go_at_call 189; refine (or_any [cmpI a.kind b.kind, cmpB a.org b.org, cmpB a.ten b.ten, cmpI a.cls b.cls] (w.heap.size + 2) _ _ ?_ ?_).mono ?_; (intro i hi; match i, hi with | 0, _ => simp [go_sem] | 1, _ => simp [go_sem] | 2, _ => simp [go_sem] | 3, _ => simp [go_sem]); (simp); rintro e w' ⟨rfl, rfl⟩))
  go_wp2
  go_ret
  exact ⟨rfl, 1, _, alloc3_grow _ _ _ _⟩

end Go.Proofs.YthmhfilkgggagaaGreatDoor
