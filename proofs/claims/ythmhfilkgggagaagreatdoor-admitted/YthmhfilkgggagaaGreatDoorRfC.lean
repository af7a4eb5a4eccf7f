/-
  The document's answer, for stage 2: does a cost fit behind so many nanoseconds; the least wait, by halving.
  The document's answer, for stage 2: its sluice with buckets and a time; how many are not empty; the place of a bucket.
  The document's answer, for stage 2: the place of a bucket; a new one, if it was not there yet.
  The document's answer, for stage 2: Level.
  The document's answer, for stage 2: Tick: each bucket falls.
  The document's answer, for stage 2: Tick, the walk.
-/
import Derived.Test.YthmhfilkgggagaaGreatDoorRfA
import Derived.Deep.AppendLies
namespace Go.Proofs.YthmhfilkgggagaaGreatDoor
open Go.RowKit Go.Maps Go.Sort

/-- The least number of nanoseconds behind which a cost fits (a ceiling). -/
def waitS (level rate burst cost : Nat) : Nat := (level + cost * 1000000000 - burst * 1000000000 + rate - 1) / rate

theorem wait_iff (level rate burst cost b : Nat) (hr : 0 < rate) (hc : cost ≤ burst) : (max 0 ((level : Int) - b * rate) + cost * 1000000000 ≤ burst * 1000000000) ↔ waitS level rate burst cost ≤ b := by
  unfold waitS
  have key : (level + cost * 1000000000 - burst * 1000000000 + rate - 1) / rate ≤ b ↔ level + cost * 1000000000 - burst * 1000000000 ≤ b * rate := by
    rw [← Nat.lt_succ_iff, Nat.div_lt_iff_lt_mul hr, Nat.succ_mul]
    omega
  rw [key]
  have e : ((b * rate : Nat) : Int) = (b : Int) * rate := by simp
  generalize hX : b * rate = X at *
  rw [← e]
  omega

theorem wait_le (level rate burst cost : Nat) (hr : 0 < rate) (hc : cost ≤ burst) : waitS level rate burst cost ≤ level / rate + 1 := by
  rw [← wait_iff level rate burst cost _ hr hc]
  have h := Nat.div_add_mod level rate
  have h2 := Nat.mod_lt level hr
  have e : ((level / rate + 1 : Nat) : Int) * (rate : Int) = ((rate * (level / rate) + rate : Nat) : Int) := by
    rw [← Int.natCast_mul]; congr 1; rw [Nat.add_mul, Nat.one_mul, Nat.mul_comm]
  rw [e]
  generalize rate * (level / rate) = Y at *
  omega

set_option maxRecDepth 100000 in
set_option maxHeartbeats 1000000 in
theorem fits_any (level rate burst cost b : Nat) (w : World) (hl : level ≤ 4000000000000000) (hu : burst ≤ 1000000) (hc : cost ≤ 1000000) (hb : b * rate ≤ 5000000000000000) :
    Calls Tryz.prog 183 #[.int .i64 level, .agg #[.int .i64 rate, .int .i64 burst], .int .i64 cost, .int .i64 b] w fun e w' => e = .returned (.bool (decide (max 0 ((level : Int) - b * rate) + cost * 1000000000 ≤ burst * 1000000000))) ∧ Below w.heap.size w w' := by
  have e : (b : Int) * (rate : Int) = ((b * rate : Nat) : Int) := by simp
  have hw1 : IntKind.i64.wrap ((b : Int) * (rate : Int)) = (b : Int) * rate := IntWalk.i64_in _ ⟨by rw [e]; omega, by rw [e]; omega⟩
  obtain ⟨X, hX⟩ : ∃ X : Int, (b : Int) * rate = X := ⟨_, rfl⟩
  have hX0 : 0 ≤ X ∧ X ≤ 5000000000000000 := by rw [← hX, e]; omega
  obtain ⟨hXa, hXb⟩ := hX0
  rw [hX]
  rw [hX] at hw1
  clear e hb
  by_cases hneg : (level : Int) - X < 0
  · have em : max 0 ((level : Int) - X) = 0 := by omega
    rw [em]
    go_enter Tryz.func183, Tryz.ntmps183
    go_wp2
    go_ret
    exact ⟨ret_bool (by rw [Bool.eq_iff_iff]; simp), Below.alloc1 _ _⟩
  · have em : max 0 ((level : Int) - X) = (level : Int) - X := by omega
    rw [em]
    go_enter Tryz.func183, Tryz.ntmps183
    go_wp2
    go_ret
    exact ⟨ret_bool rfl, Below.alloc1 _ _⟩

theorem half_mul (lo hi rate : Nat) (h : hi * rate ≤ 5000000000000000) (hlt : lo < hi) : (lo + hi) / 2 * rate ≤ 5000000000000000 :=
  Nat.le_trans (Nat.mul_le_mul_right _ (by omega)) h

set_option maxRecDepth 100000 in
set_option maxHeartbeats 1000000 in
theorem wait_any (level rate burst cost : Nat) (w : World) (hl : level ≤ 4000000000000000) (hr0 : 0 < rate) (hr : rate ≤ 1000000) (hu : burst ≤ 1000000) (hc : cost ≤ burst) :
    Calls Tryz.prog 144 #[.int .i64 level, .agg #[.int .i64 rate, .int .i64 burst], .int .i64 cost] w fun e w' => e = .returned (.int .i64 (waitS level rate burst cost : Nat)) ∧ Below w.heap.size w w' := by
  obtain ⟨R, hR⟩ : ∃ R, R = waitS level rate burst cost := ⟨_, rfl⟩
  rw [← hR]
  have hRle : R ≤ level / rate + 1 := by rw [hR]; exact wait_le level rate burst cost hr0 hc
  have hfit : ∀ (b : Nat) (W : World), b * rate ≤ 5000000000000000 → Calls Tryz.prog 183 #[.int .i64 level, .agg #[.int .i64 rate, .int .i64 burst], .int .i64 cost, .int .i64 b] W fun e w' => e = .returned (.bool (decide (R ≤ b))) ∧ Below W.heap.size W w' := by
    intro b W hb
    have := fits_any level rate burst cost b W hl hu (by omega) hb
    have e : decide (max 0 ((level : Int) - b * rate) + cost * 1000000000 ≤ burst * 1000000000) = decide (R ≤ b) := by
      rw [Bool.eq_iff_iff, decide_eq_true_iff, decide_eq_true_iff, hR]
      exact wait_iff level rate burst cost b hr0 hc
    rw [e] at this
    exact this
  have HF := hide hfit
  have hq : (level : Int) / (rate : Int) = ((level / rate : Nat) : Int) := by simp
  have hqt : (level : Int).tdiv (rate : Int) = ((level / rate : Nat) : Int) := by rw [Int.tdiv_eq_ediv_of_nonneg (by omega)]; exact hq
  have hqm : level / rate * rate ≤ level := Nat.div_mul_le_self level rate
  have hqb : level / rate ≤ 4000000000000000 := Nat.le_trans (Nat.div_le_self _ _) hl
  obtain ⟨Q, hQ⟩ : ∃ Q, level / rate = Q := ⟨_, rfl⟩
  rw [hQ] at hRle hq hqt hqm hqb
  have hrz : ¬ ((rate : Int) = 0) := by omega
  have hry : ¬ (rate = 0) := by omega
  have HRL := hide hRle; have HQM := hide hqm
  clear hR hfit hQ hqm
  go_enter Tryz.func144, Tryz.ntmps144
  go_wp2_with fail
  go_loopw [7, 8] (fun v7 v8 wr => ∃ lo hi : Nat, v7 = .int .i64 lo ∧ v8 = .int .i64 hi ∧ lo ≤ R ∧ R ≤ hi ∧ hi ≤ Q + 1 ∧ Below w.heap.size w wr ∧ Two wr w.heap.size (.int .i64 rate) (.int .i64 burst)) (fun v7 v8 _ => (intOf v8 - intOf v7).toNat)
  case atStart => exact ⟨0, Q + 1, rfl, by go_num, Nat.zero_le _, unhide HRL, Nat.le_refl _, Below.alloc1 w _, Two.made w _ _ _⟩
  case round =>
    obtain ⟨lo, hi, rfl, rfl, hlo, hhi, hQ1, hbw, htwo⟩ := hrel
    by_cases hlt : lo < hi
    · have hli : (lo : Int) < (hi : Int) := by omega
      have hhm : hi * rate ≤ 5000000000000000 := by
        have h1 : hi * rate ≤ (Q + 1) * rate := Nat.mul_le_mul_right _ hQ1
        have h2 := unhide HQM
        rw [Nat.add_mul, Nat.one_mul] at h1
        omega
      have hfm := hide (unhide HF ((lo + hi) / 2) wr (half_mul lo hi rate hhm hlt))
      obtain ⟨H, hH⟩ : ∃ H, (lo + hi) / 2 = H := ⟨_, rfl⟩
      rw [hH] at hfm
      have hHi : ((lo : Int) + (hi : Int)) / 2 = (H : Int) := by omega
      have hHb : lo ≤ H ∧ H < hi := by omega
      have HW := hide htwo; have HB := hide hbw
      obtain ⟨x0, x1, _, _, hxz⟩ := htwo
      clear hH hhm hbw
      by_cases hRH : R ≤ H
      · have hd : decide (R ≤ H) = true := decide_eq_true hRH
        rw [hd] at hfm
        clear hd
        go_wp2_with fail
        refine (unhide hfm).mono ?_
        rintro e w1 ⟨rfl, hb1⟩
        have HW1 := hide ((unhide HW).keep hb1 hxz)
        have HB1 := hide ((unhide HB).trans (hb1.mono (unhide HB).size))
        clear hb1 x0 x1 hfm
        go_wp2
        go_roundw
        case rel => exact ⟨lo, H, rfl, by go_num, hlo, hRH, by omega, unhide HB1, unhide HW1⟩
        case measure => simp [intOf]; omega
      · have hd : decide (R ≤ H) = false := decide_eq_false hRH
        rw [hd] at hfm
        clear hd
        go_wp2_with fail
        refine (unhide hfm).mono ?_
        rintro e w1 ⟨rfl, hb1⟩
        have HW1 := hide ((unhide HW).keep hb1 hxz)
        have HB1 := hide ((unhide HB).trans (hb1.mono (unhide HB).size))
        clear hb1 x0 x1 hfm
        go_wp2
        go_roundw
        case rel => exact ⟨H + 1, hi, by go_num, rfl, by omega, hhi, hQ1, unhide HB1, unhide HW1⟩
        case measure => simp [intOf]; omega
    · have hli : ¬ (lo : Int) < (hi : Int) := by omega
      have HE : Hid (lo = R) := hide (by omega)
      go_wp2
      go_ret
      exact ⟨ret_int (by rw [unhide HE]), hbw⟩

end Go.Proofs.YthmhfilkgggagaaGreatDoor

namespace Go.Proofs.YthmhfilkgggagaaGreatDoor
open Go.RowKit Go.Maps Go.Sort

structure Bk where
  cls : Nat
  org : List UInt8
  ten : List UInt8
  level : Nat

def bkC (b : Bk) : List Value := [.int .i64 b.cls, .string ⟨b.org.toArray⟩, .string ⟨b.ten.toArray⟩, .int .i64 b.level]
def bkAll (l : List Bk) : List Value := l.flatMap bkC

theorem bkAll_at : ∀ (l : List Bk) (k : Nat) (hk : k < l.length) (j : Nat), j < 4 → (bkAll l)[k * 4 + j]? = (bkC l[k])[j]?
  | [], k, hk, _, _ => by simp at hk
  | x :: r, 0, _, j, hj => by
    show (bkC x ++ bkAll r)[0 * 4 + j]? = _
    rw [List.getElem?_append_left (by simp [bkC]; omega)]; simp
  | x :: r, k + 1, hk, j, hj => by
    show (bkC x ++ bkAll r)[(k + 1) * 4 + j]? = _
    rw [List.getElem?_append_right (by simp [bkC]; omega)]
    have e : (k + 1) * 4 + j - (bkC x).length = k * 4 + j := by simp [bkC]; omega
    rw [e, bkAll_at r k (by simpa using hk) j hj]; rfl

/-- The document's sluice with its buckets and its time. -/
structure IsRefB (w : World) (rb : Nat) (v vB : Value) (tm : Nat) (l : List (Sl.Subj × Sl.Lim)) (bs : List Bk) : Prop where
  at_ : w.heap[rb]? = some (.cells #[v, vB, .int .i64 tm] 140 (0, 0))
  own : w.ownsRow 0 178 6 v l.length (saidAll l)
  ownB : w.ownsRow 0 183 4 vB bs.length (bkAll bs)
  ok : OkT l
  dflt : defaultsB l = true
  low : 7 ≤ rb

theorem IsRefB.lt {w : World} {rb : Nat} {v vB : Value} {tm : Nat} {l : List (Sl.Subj × Sl.Lim)} {bs : List Bk} (h : IsRefB w rb v vB tm l bs) : rb < w.heap.size := (Array.getElem?_eq_some_iff.1 h.at_).1

theorem IsRefB.below {w w' : World} {rb : Nat} {v vB : Value} {tm : Nat} {l : List (Sl.Subj × Sl.Lim)} {bs : List Bk} (h : IsRefB w rb v vB tm l bs) (hb : Below w.heap.size w w') : IsRefB w' rb v vB tm l bs :=
  ⟨(hb.block rb h.lt).trans h.at_, own_below h.own hb, own_below h.ownB hb, h.ok, h.dflt, h.low⟩

theorem IsRefB.cells {w : World} {rb : Nat} {v vB : Value} {tm : Nat} {l : List (Sl.Subj × Sl.Lim)} {bs : List Bk} (h : IsRefB w rb v vB tm l bs) : w.cell? ⟨rb, 0, none⟩ = some v ∧ w.cell? ⟨rb, 1, none⟩ = some vB ∧ w.cell? ⟨rb, 2, none⟩ = some (.int .i64 tm) ∧ ∀ i, w.frozen? ⟨rb, i, none⟩ = false := by
  refine ⟨?_, ?_, ?_, fun i => ?_⟩ <;> simp [World.cell?, World.frozen?, h.at_]

theorem IsRefB.shape {w : World} {rb : Nat} {v vB : Value} {tm : Nat} {l : List (Sl.Subj × Sl.Lim)} {bs : List Bk} (h : IsRefB w rb v vB tm l bs) : ∃ a c, vB = .slice a bs.length c := by
  rcases own_shape h.ownB with ⟨h1, h2⟩ | ⟨g, cap, h1, _⟩
  · exact ⟨_, _, by rw [h1, h2]⟩
  · exact ⟨_, _, h1⟩

/-- What stands at a place of the buckets. -/
theorem IsRefB.nth {w : World} {rb : Nat} {v vB : Value} {tm : Nat} {l : List (Sl.Subj × Sl.Lim)} {bs : List Bk} (h : IsRefB w rb v vB tm l bs) {i : Nat} (hi : i < bs.length) : ∃ g cap, vB = .slice (some ⟨g, 0, none⟩) bs.length cap ∧ g < w.heap.size ∧
    w.cell? ⟨g, i * 4, none⟩ = some (.int .i64 bs[i].cls) ∧ w.cell? ⟨g, i * 4 + 1, none⟩ = some (.string ⟨bs[i].org.toArray⟩) ∧ w.cell? ⟨g, i * 4 + 2, none⟩ = some (.string ⟨bs[i].ten.toArray⟩) ∧ w.cell? ⟨g, i * 4 + 3, none⟩ = some (.int .i64 bs[i].level) := by
  rcases own_shape h.ownB with ⟨_, h2⟩ | ⟨g, cap, h1, _, hg, hc⟩
  · omega
  · exact ⟨g, cap, h1, hg, hc _ _ (bkAll_at bs i hi 0 (by omega)), hc _ _ (bkAll_at bs i hi 1 (by omega)), hc _ _ (bkAll_at bs i hi 2 (by omega)), hc _ _ (bkAll_at bs i hi 3 (by omega))⟩

/-- How many are not empty. -/
def fullN (bs : List Bk) : Nat := bs.countP fun b => decide (0 < b.level)

theorem fullN_take (bs : List Bk) (i : Nat) (hi : i < bs.length) : fullN (bs.take (i + 1)) = fullN (bs.take i) + if 0 < bs[i].level then 1 else 0 := by
  unfold fullN
  rw [List.take_succ_eq_append_getElem hi, List.countP_append]
  congr 1
  by_cases h : 0 < bs[i].level
  · rw [if_pos h]; simp [h]
  · rw [if_neg h]; simp; omega

set_option maxRecDepth 100000 in
set_option maxHeartbeats 1000000 in
theorem refSweep_any (rb : Nat) (v vB : Value) (tm : Nat) (l : List (Sl.Subj × Sl.Lim)) (bs : List Bk) (w : World) (h : IsRefB w rb v vB tm l bs) (hn : bs.length ≤ 281474976710656) :
    Calls Tryz.prog 64 #[.pointer (some ⟨rb, 0, none⟩)] w fun e w' => e = .returned (.int .i64 (fullN bs : Nat)) ∧ w' = w := by
  obtain ⟨_, c1, _, _⟩ := h.cells
  have hrb := h.lt
  obtain ⟨av, cv, rfl⟩ := h.shape
  have HH := hide h
  clear h
  go_enter Tryz.func64, Tryz.ntmps64
  go_wp2_with fail
  go_loopw [3, 4] (fun vn vi wr => wr = w ∧ ∃ i : Nat, i ≤ bs.length ∧ vi = .int .i64 i ∧ vn = .int .i64 (fullN (bs.take i) : Nat)) (fun _ vi _ => bs.length - (intOf vi).toNat)
  case atStart => exact ⟨rfl, 0, Nat.zero_le _, rfl, by simp [fullN]⟩
  case round =>
    obtain ⟨rfl, i, hi, rfl, rfl⟩ := hrel
    have hcl : fullN (bs.take i) ≤ i := by
      have := List.countP_le_length (p := fun b : Bk => decide (0 < b.level)) (l := bs.take i)
      unfold fullN; simp at this; omega
    by_cases hlt : i < bs.length
    · obtain ⟨g, cap, e, hg, _, _, _, x3⟩ := (unhide HH).nth hlt
      have hft := fullN_take bs i hlt
      have hii : (i : Int) < (bs.length : Int) := by omega
      cases e
      by_cases hp : 0 < bs[i].level
      · rw [if_pos hp] at hft
        have HFT := hide hft
        have q : (0 : Int) < (bs[i].level : Int) := by omega
        generalize fullN (bs.take i) = m at *
        generalize bs[i].level = lv at *
        clear hft hp
        go_wp2
        go_roundw
        case rel => exact ⟨trivial, i + 1, by omega, by go_num, by rw [unhide HFT]; go_num⟩
        case measure => simp [intOf]; omega
      · rw [if_neg hp] at hft
        have HFT := hide hft
        have q : ¬ (0 : Int) < (bs[i].level : Int) := by omega
        generalize fullN (bs.take i) = m at *
        generalize bs[i].level = lv at *
        clear hft hp
        go_wp2
        go_roundw
        case rel => exact ⟨trivial, i + 1, by omega, by go_num, by rw [unhide HFT]; rfl⟩
        case measure => simp [intOf]; omega
    · have hii : ¬ (i : Int) < (bs.length : Int) := by omega
      have HE : Hid (fullN (bs.take i) = fullN bs) := hide (by rw [List.take_of_length_le (by omega)])
      go_wp2
      go_ret
      exact ⟨ret_int (by rw [unhide HE]), rfl⟩

end Go.Proofs.YthmhfilkgggagaaGreatDoor

namespace Go.Proofs.YthmhfilkgggagaaGreatDoor
open Go.RowKit Go.Maps Go.Sort

def sameB (b : Bk) (c : Nat) (org ten : List UInt8) : Bool := b.cls == c && b.org == org && b.ten == ten

def bFrom (c : Nat) (org ten : List UInt8) : List Bk → Nat → Option Nat
  | [], _ => none
  | b :: r, k => if sameB b c org ten = true then some k else bFrom c org ten r (k + 1)

theorem bFrom_spec (c : Nat) (org ten : List UInt8) : ∀ (bs : List Bk) (k : Nat), (bFrom c org ten bs k = none ∧ ∀ b ∈ bs, sameB b c org ten = false) ∨ ∃ i, ∃ hi : i < bs.length, bFrom c org ten bs k = some (k + i) ∧ sameB bs[i] c org ten = true
  | [], k => .inl ⟨rfl, by simp⟩
  | b :: r, k => by
    by_cases h : sameB b c org ten = true
    · exact .inr ⟨0, by simp, by unfold bFrom; rw [if_pos h]; rfl, h⟩
    · have e : bFrom c org ten (b :: r) k = bFrom c org ten r (k + 1) := by
        conv => lhs; unfold bFrom
        rw [if_neg h]
      rcases bFrom_spec c org ten r (k + 1) with ⟨h1, h2⟩ | ⟨i, hi, h1, h2⟩
      · left
        refine ⟨e.trans h1, fun x hx => ?_⟩
        rcases List.mem_cons.1 hx with rfl | hx
        · simpa using h
        · exact h2 x hx
      · refine .inr ⟨i + 1, by simp; omega, ?_, h2⟩
        rw [e, h1]; congr 1; omega

theorem info_bk : (Tryz.prog.info? 183).map (fun i => (i.zero, i.size, i.bytes)) = some (some (.agg #[.int .i64 0, .string ⟨#[]⟩, .string ⟨#[]⟩, .int .i64 0]), 4, 48) := by kernel_rfl

/-- What bucket leaves: the place, and the buckets with a new one, if it was not there. -/
def BucketP (rb : Nat) (v vB : Value) (tm : Nat) (l : List (Sl.Subj × Sl.Lim)) (bs : List Bk) (c : Nat) (org ten : List UInt8) (w : World) (e : Ending) (w' : World) : Prop :=
  match bFrom c org ten bs 0 with
  | some i => e = .returned (.int .i64 (i : Nat)) ∧ w' = w
  | none => e = .returned (.int .i64 (bs.length : Nat)) ∧ ∃ vB' w1, IsRefB w' rb v vB' tm l (bs ++ [⟨c, org, ten, 0⟩]) ∧ w.grownBy w1 vB.ownBlock ∧ w1.grownBy w' (some rb) ∧ ∀ g, vB'.ownBlock = some g → vB.ownBlock = some g ∨ w.heap.size ≤ g

theorem IsRefB.rowed {w w1 : World} {rb : Nat} {v vB vB' : Value} {tm : Nat} {l : List (Sl.Subj × Sl.Lim)} {bs bs' : List Bk} (h : IsRefB w rb v vB tm l bs) (hg : w.grownBy w1 vB.ownBlock) (ho : w1.ownsRow 0 183 4 vB' bs'.length (bkAll bs')) :
    w1.heap[rb]? = some (.cells #[v, vB, .int .i64 tm] 140 (0, 0)) ∧ IsRefB (w1.setCell ⟨rb, 1, none⟩ vB') rb v vB' tm l bs' := by
  have hne : some rb ≠ vB.ownBlock := by
    intro e
    rcases h.ownB.2 with ⟨e1, _⟩ | ⟨g, cap, cur, e1, _, hgg, _⟩
    · rw [e1] at e; cases e
    · rw [e1] at e
      simp only [Value.ownBlock] at e
      cases e
      rw [h.at_] at hgg
      cases hgg
  have h1 := (hg.block rb h.lt hne).trans h.at_
  refine ⟨h1, heap_setCell_at h1 1 _, ?_, ?_, h.ok, h.dflt, h.low⟩
  · refine (h.own.kept hg (own_apart h.own h.ownB (by decide))).kept (grown_set w1 rb 1 _) ?_
    have ho1 := h.own.kept hg (own_apart h.own h.ownB (by decide))
    rcases ho1.2 with ⟨e1, _⟩ | ⟨g, cap, cur, e1, _, hgg, _⟩
    · rw [e1]; exact .inl rfl
    · right
      rw [e1]
      simp only [Value.ownBlock]
      intro e
      cases e
      rw [h1] at hgg
      cases hgg
  · refine ho.kept (grown_set w1 rb 1 _) ?_
    rcases ho.2 with ⟨e1, _⟩ | ⟨g, cap, cur, e1, _, hgg, _⟩
    · rw [e1]; exact .inl rfl
    · right
      rw [e1]
      simp only [Value.ownBlock]
      intro e
      cases e
      rw [h1] at hgg
      cases hgg

theorem IsRefB.rowedCells {w w1 : World} {rb : Nat} {v vB : Value} {tm : Nat} {l : List (Sl.Subj × Sl.Lim)} {bs : List Bk} (h : IsRefB w rb v vB tm l bs) (hg : w.grownBy w1 vB.ownBlock) : w1.cell? ⟨rb, 1, none⟩ = some vB ∧ w1.frozen? ⟨rb, 1, none⟩ = false := by
  have hne : some rb ≠ vB.ownBlock := by
    intro e
    rcases h.ownB.2 with ⟨e1, _⟩ | ⟨g, cap, cur, e1, _, hgg, _⟩
    · rw [e1] at e; cases e
    · rw [e1] at e
      simp only [Value.ownBlock] at e
      cases e
      rw [h.at_] at hgg
      cases hgg
  have h1 := (hg.block rb h.lt hne).trans h.at_
  exact ⟨by simp [World.cell?, h1], by simp [World.frozen?, h1]⟩

set_option maxRecDepth 100000 in
set_option maxHeartbeats 4000000 in
theorem refBucket_any (rb : Nat) (v vB : Value) (tm : Nat) (l : List (Sl.Subj × Sl.Lim)) (bs : List Bk) (c : Nat) (org ten : List UInt8) (w : World) (h : IsRefB w rb v vB tm l bs) (hn : bs.length ≤ 2932031007401) :
    Calls Tryz.prog 97 #[.pointer (some ⟨rb, 0, none⟩), .int .i64 c, .string ⟨org.toArray⟩, .string ⟨ten.toArray⟩] w (BucketP rb v vB tm l bs c org ten w) := by
  obtain ⟨i0, hi0, hz0, hz1, hz2⟩ := info_parts info_bk
  obtain ⟨_, c1, _, fz⟩ := h.cells
  have f1 := fz 1
  have hrb := h.lt
  obtain ⟨av, cv, rfl⟩ := h.shape
  have HH := hide h
  obtain ⟨R, hR⟩ : ∃ R, R = bFrom c org ten bs 0 := ⟨_, rfl⟩
  have HR := hide hR
  obtain ⟨B1, hB1⟩ : ∃ B : ByteArray, B = ⟨org.toArray⟩ := ⟨_, rfl⟩
  obtain ⟨B2, hB2⟩ : ∃ B : ByteArray, B = ⟨ten.toArray⟩ := ⟨_, rfl⟩
  rw [← hB1, ← hB2]
  have HB1 := hide hB1; have HB2 := hide hB2
  clear h hR hB1 hB2 fz
  go_enter Tryz.func97, Tryz.ntmps97
  go_wp2_with fail
  go_loopw [9] (fun vi wr => wr = w ∧ ∃ i : Nat, i ≤ bs.length ∧ vi = .int .i64 i ∧ bFrom c org ten (bs.drop i) i = R) (fun vi _ => bs.length - (intOf vi).toNat)
  case atStart => exact ⟨rfl, 0, Nat.zero_le _, rfl, by rw [unhide HR]; rfl⟩
  case round =>
    obtain ⟨rfl, i, hi, rfl, hf⟩ := hrel
    by_cases hlt : i < bs.length
    · obtain ⟨g, cap, e, hg, x0, x1, x2, x3⟩ := (unhide HH).nth hlt
      have hdrop : bs.drop i = bs[i] :: bs.drop (i + 1) := List.drop_eq_getElem_cons hlt
      have hii : (i : Int) < (bs.length : Int) := by omega
      rw [hdrop] at hf
      cases e
      generalize bs[i] = b at *
      have HF := hide hf
      have hno : sameB b c org ten = false → bFrom c org ten (bs.drop (i + 1)) (i + 1) = R := by
        intro h
        have h2 := unhide HF
        unfold bFrom at h2
        rw [if_neg (by rw [h]; simp)] at h2
        exact h2
      have HNO := hide hno
      obtain ⟨A1, hA1⟩ : ∃ B : ByteArray, B = ⟨b.org.toArray⟩ := ⟨_, rfl⟩
      obtain ⟨A2, hA2⟩ : ∃ B : ByteArray, B = ⟨b.ten.toArray⟩ := ⟨_, rfl⟩
      rw [← hA1] at x1
      rw [← hA2] at x2
      have e1 : (A1.toList == B1.toList) = (b.org == org) := by rw [Sl.str_eq, hA1, unhide HB1, Bool.eq_iff_iff]; simp
      have e2 : (A2.toList == B2.toList) = (b.ten == ten) := by rw [Sl.str_eq, hA2, unhide HB2, Bool.eq_iff_iff]; simp
      have E1 := hide e1; have E2 := hide e2
      clear hf hno hdrop hA1 hA2 e1 e2
      by_cases k0 : b.cls = c
      · rw [k0] at x0
        cases q1 : (A1.toList == B1.toList) with
        | true =>
          cases q2 : (A2.toList == B2.toList) with
          | true =>
            have HE : Hid (bFrom c org ten bs 0 = some i) := hide (by
              rw [← unhide HR, ← unhide HF]
              unfold bFrom
              rw [if_pos]
              rw [unhide E1] at q1; rw [unhide E2] at q2
              simp [sameB, q1, q2, k0])
            clear k0
            go_wp2
            go_ret
            unfold BucketP
            rw [unhide HE]
            exact ⟨rfl, rfl⟩
          | false =>
            have HE := hide (unhide HNO (by rw [unhide E2] at q2; simp [sameB, q2]))
            clear k0
            go_wp2
            go_roundw
            case rel => exact ⟨trivial, i + 1, by omega, by go_num, unhide HE⟩
            case measure => simp [intOf]; omega
        | false =>
          have HE := hide (unhide HNO (by rw [unhide E1] at q1; simp [sameB, q1]))
          clear k0
          go_wp2
          go_roundw
          case rel => exact ⟨trivial, i + 1, by omega, by go_num, unhide HE⟩
          case measure => simp [intOf]; omega
      · have HE := hide (unhide HNO (by
          have h2 : (b.cls == c) = false := by rw [beq_eq_false_iff_ne]; exact k0
          simp [sameB, h2]))
        have q1 : ((b.cls : Int) == (c : Int)) = false := by rw [beq_eq_false_iff_ne]; omega
        clear k0
        go_wp2
        go_roundw
        case rel => exact ⟨trivial, i + 1, by omega, by go_num, unhide HE⟩
        case measure => simp [intOf]; omega
    · have hii : ¬ (i : Int) < (bs.length : Int) := by omega
      have HE : Hid (bFrom c org ten bs 0 = none) := hide (by
        rw [← unhide HR, ← hf, List.drop_eq_nil_of_le (by omega)]; rfl)
      clear hf
      go_wp2_with (at_builtin; refine wpList_append_lies _ rfl (.tmp 58) (.tmp 63) 138 rfl 0 183 i0 (.agg #[.int .i64 0, .string ⟨#[]⟩, .string ⟨#[]⟩, .int .i64 0]) 4 48 Tryz.underlying138 hi0 hz0 hz1 hz2 rfl (by decide) _ _ _ rfl ((unhide HH).ownB.alloc _) ⟨wr.heap.size, 0, none⟩ 1 1 [.int .i64 c, .string B1, .string B2, .int .i64 0] rfl rfl (cell_new_at _ _ _ _ rfl) (by intro u hu; simp at hu; rcases hu with rfl | rfl | rfl | rfl <;> rfl) (by omega) (by unfold maxLen; omega) (by omega) (Nat.zero_le _) _ rfl ?_; intro g3 c3 w3 hown3 hgrow3 hat3 hlt3; have HA3 := hide hat3; have HO3 := hide hown3; have HG3 := hide hgrow3; obtain ⟨y1, y2⟩ := ((unhide HH).below (Below.alloc1 _ _)).rowedCells hgrow3; clear hown3 hgrow3 hat3)
      go_ret
      unfold BucketP
      rw [unhide HE]
      have ho : w3.ownsRow 0 183 4 (.slice (some ⟨g3, 0, none⟩) (bs.length + 1) c3) (bs ++ [(⟨c, org, ten, 0⟩ : Bk)]).length (bkAll (bs ++ [⟨c, org, ten, 0⟩])) := by
        have e : bkAll (bs ++ [(⟨c, org, ten, 0⟩ : Bk)]) = bkAll bs ++ [.int .i64 c, .string B1, .string B2, .int .i64 0] := by
          rw [unhide HB1, unhide HB2]; simp [bkAll, bkC]
        rw [e, List.length_append]
        exact unhide HO3
      refine ⟨ret_int (by omega), .slice (some ⟨g3, 0, none⟩) (bs.length + 1) c3, w3, (((unhide HH).below (Below.alloc1 _ _)).rowed (unhide HG3) ho).2, (grown_alloc _ _ _).trans (unhide HG3), grown_set w3 rb 1 _, fun g hg => ?_⟩
      simp only [Value.ownBlock] at hg
      cases hg
      rcases unhide HA3 with h3 | h3
      · exact .inl h3
      · right; rw [h3]; simp

end Go.Proofs.YthmhfilkgggagaaGreatDoor

namespace Go.Proofs.YthmhfilkgggagaaGreatDoor
open Go.RowKit Go.Maps Go.Sort

def levelOf (bs : List Bk) (c : Nat) (org ten : List UInt8) : Nat := match bFrom c org ten bs 0 with
  | some i => (bs[i]?.map (·.level)).getD 0
  | none => 0

/-- What Level leaves of the buckets: an empty one more, if it was not there. -/
def LevelL (rb : Nat) (v vB : Value) (tm : Nat) (l : List (Sl.Subj × Sl.Lim)) (bs : List Bk) (c : Nat) (org ten : List UInt8) (w w' : World) : Prop :=
  match bFrom c org ten bs 0 with
  | some _ => w' = w
  | none => ∃ vB' w1, IsRefB w' rb v vB' tm l (bs ++ [⟨c, org, ten, 0⟩]) ∧ w.grownBy w1 vB.ownBlock ∧ w1.grownBy w' (some rb) ∧ ∀ g, vB'.ownBlock = some g → vB.ownBlock = some g ∨ w.heap.size ≤ g

set_option maxRecDepth 100000 in
set_option maxHeartbeats 4000000 in
theorem refLevel_none (rb : Nat) (cls org ten : List UInt8) (w : World) (ho : org.length ≤ 281474976710656) (ht : ten.length ≤ 281474976710656) (hb : bucketS cls org ten = none) :
    Calls Tryz.prog 63 #[.pointer (some ⟨rb, 0, none⟩), .string ⟨cls.toArray⟩, .string ⟨org.toArray⟩, .string ⟨ten.toArray⟩] w fun e w' => e = .returned (.tuple #[.int .i64 0, .int .i64 5]) ∧ w' = w := by
  have hnm := named_any cls org ten w ho ht
  have en : namedV cls org ten = .tuple #[.int .i64 0, .int .i64 5] := by unfold namedV; rw [hb]
  rw [en] at hnm
  have HNM := hide hnm
  clear hnm en hb
  go_enter Tryz.func63, Tryz.ntmps63
  go_wp2_with fail
  refine (unhide HNM).mono ?_
  rintro e w1 ⟨rfl, rfl⟩
  go_wp2
  go_ret2
  exact ⟨rfl, rfl⟩

set_option maxRecDepth 100000 in
set_option maxHeartbeats 4000000 in
theorem refLevel_some (rb : Nat) (v vB : Value) (tm : Nat) (l : List (Sl.Subj × Sl.Lim)) (bs : List Bk) (cls org ten : List UInt8) (c : Nat) (w : World) (h : IsRefB w rb v vB tm l bs) (hn : bs.length ≤ 2932031007401) (ho : org.length ≤ 281474976710656) (ht : ten.length ≤ 281474976710656) (hb : bucketS cls org ten = some c) :
    Calls Tryz.prog 63 #[.pointer (some ⟨rb, 0, none⟩), .string ⟨cls.toArray⟩, .string ⟨org.toArray⟩, .string ⟨ten.toArray⟩] w fun e w' => e = .returned (.tuple #[.int .i64 (levelOf bs c org ten : Nat), .int .i64 0]) ∧ LevelL rb v vB tm l bs c org ten w w' := by
  have hnm := named_any cls org ten w ho ht
  have en : namedV cls org ten = .tuple #[.int .i64 c, .int .i64 0] := by unfold namedV; rw [hb]
  rw [en] at hnm
  have HNM := hide hnm
  have HBK := hide (refBucket_any rb v vB tm l bs c org ten w h hn)
  have HH := hide h
  have hrb := h.lt
  obtain ⟨av, cv, e5⟩ := h.shape
  have c1 := h.cells.2.1
  rcases bFrom_spec c org ten bs 0 with ⟨hf, _⟩ | ⟨i, hi, hf, _⟩
  · have hL : levelOf bs c org ten = 0 := by unfold levelOf; rw [hf]
    rw [hL]
    have HF := hide hf
    clear hnm en hb h hf hL c1
    go_enter Tryz.func63, Tryz.ntmps63
    go_wp2_with fail
    refine (unhide HNM).mono ?_
    rintro e w1 ⟨rfl, rfl⟩
    go_wp2_with fail
    refine (unhide HBK).mono ?_
    intro e w2 hp
    unfold BucketP at hp
    rw [unhide HF] at hp
    obtain ⟨rfl, vB', w3, hI, hg1, hg2, hfr⟩ := hp
    have HP := hide (And.intro hI (And.intro hg1 (And.intro hg2 hfr)))
    obtain ⟨g, cap, ev, hg, z0, z1, z2, x3⟩ := hI.nth (i := bs.length) (by simp)
    clear z0 z1 z2
    have x4 : w2.cell? ⟨g, bs.length * 4 + 3, none⟩ = some (.int .i64 0) := by rw [x3]; simp
    have c1 := hI.cells.2.1
    rw [ev] at c1
    have e2 : (bs ++ [(⟨c, org, ten, 0⟩ : Bk)]).length = bs.length + 1 := by simp
    rw [e2] at c1
    have hii : (bs.length : Int) < (bs.length : Int) + 1 := by omega
    clear hI hg1 hg2 hfr x3 ev e5 e2
    go_wp2
    go_ret2
    refine ⟨rfl, ?_⟩
    unfold LevelL
    rw [unhide HF]
    exact ⟨vB', w3, (unhide HP).1, (unhide HP).2.1, (unhide HP).2.2.1, (unhide HP).2.2.2⟩
  · rw [Nat.zero_add] at hf
    have hL : levelOf bs c org ten = bs[i].level := by unfold levelOf; rw [hf]; simp [hi]
    rw [hL]
    obtain ⟨g, cap, ev, hg, _, _, _, x3⟩ := h.nth hi
    rw [ev] at c1
    have HF := hide hf
    have hii : (i : Int) < (bs.length : Int) := by omega
    generalize bs[i].level = lv at *
    clear hnm en hb h hf hL ev e5
    go_enter Tryz.func63, Tryz.ntmps63
    go_wp2_with fail
    refine (unhide HNM).mono ?_
    rintro e w1 ⟨rfl, rfl⟩
    go_wp2_with fail
    refine (unhide HBK).mono ?_
    intro e w2 hp
    unfold BucketP at hp
    rw [unhide HF] at hp
    obtain ⟨rfl, rfl⟩ := hp
    go_wp2
    go_ret2
    refine ⟨rfl, ?_⟩
    unfold LevelL
    rw [unhide HF]

end Go.Proofs.YthmhfilkgggagaaGreatDoor

namespace Go.Proofs.YthmhfilkgggagaaGreatDoor
open Go.RowKit Go.Maps Go.Sort

theorem own_set_at {w : World} {B e size n g cap : Nat} {xs : List Value} (h : w.ownsRow B e size (.slice (some ⟨g, 0, none⟩) n cap) n xs) (j : Nat) (u : Value) : (w.setCell ⟨g, j, none⟩ u).ownsRow B e size (.slice (some ⟨g, 0, none⟩) n cap) n (xs.set j u) := by
  refine ⟨by rw [List.length_set]; exact h.1, ?_⟩
  rcases h.2 with ⟨e1, _⟩ | ⟨g', cap', cur, e1, hb, hg, hn, hc, hs, ht⟩
  · cases e1
  · cases e1
    refine .inr ⟨g, cap, cur.setIfInBounds j u, rfl, hb, heap_setCell_at hg j u, hn, hc, by simpa using hs, ?_⟩
    rw [← ht, Array.toList_setIfInBounds, List.take_set]

theorem bkAll_set : ∀ (l : List Bk) (k : Nat) (lv : Nat) (hk : k < l.length), bkAll (l.set k { l[k] with level := lv }) = (bkAll l).set (k * 4 + 3) (.int .i64 lv)
  | [], k, _, hk => by simp at hk
  | x :: r, 0, lv, _ => by
    show bkC { x with level := lv } ++ bkAll r = (bkC x ++ bkAll r).set (0 * 4 + 3) _
    rw [List.set_append_left _ _ (by simp [bkC])]
    rfl
  | x :: r, k + 1, lv, hk => by
    have hk' : k < r.length := by simpa using hk
    show bkC x ++ bkAll (r.set k { r[k]'hk' with level := lv }) = (bkC x ++ bkAll r).set ((k + 1) * 4 + 3) _
    rw [bkAll_set r k lv hk', List.set_append_right _ _ (by simp [bkC]; omega)]
    congr 2
    simp [bkC]; omega

/-- One bucket, n nanoseconds later. -/
def fall (l : List (Sl.Subj × Sl.Lim)) (n : Nat) (b : Bk) : Bk := { b with level := b.level - n * (limitS l b.cls b.org b.ten).rate }

def fallTo (l : List (Sl.Subj × Sl.Lim)) (n : Nat) (bs : List Bk) (i : Nat) : List Bk := (bs.take i).map (fall l n) ++ bs.drop i

theorem fallTo_len (l : List (Sl.Subj × Sl.Lim)) (n : Nat) (bs : List Bk) (i : Nat) (hi : i ≤ bs.length) : (fallTo l n bs i).length = bs.length := by
  simp [fallTo]; omega

theorem fallTo_at (l : List (Sl.Subj × Sl.Lim)) (n : Nat) (bs : List Bk) (i : Nat) (hi : i < bs.length) : (fallTo l n bs i)[i]'(by rw [fallTo_len l n bs i (by omega)]; exact hi) = bs[i] := by
  unfold fallTo
  rw [List.getElem_append_right (by simp; omega)]
  simp [Nat.min_eq_left (Nat.le_of_lt hi)]

theorem fallTo_next (l : List (Sl.Subj × Sl.Lim)) (n : Nat) (bs : List Bk) (i : Nat) (hi : i < bs.length) : fallTo l n bs (i + 1) = (fallTo l n bs i).set i (fall l n bs[i]) := by
  unfold fallTo
  rw [List.take_succ_eq_append_getElem hi, List.map_append, List.set_append_right _ _ (by simp; omega)]
  simp only [List.length_map, List.length_take, Nat.min_eq_left (Nat.le_of_lt hi), Nat.sub_self, List.map_cons, List.map_nil, List.append_assoc]
  rw [List.drop_eq_getElem_cons hi]
  rfl

/-- Two blocks may have turned, and new ones may have come. -/
structure Turned2 (w : World) (rb : Nat) (row : Option Nat) (w' : World) : Prop where
  os : w'.os = w.os
  tape : w'.tape = w.tape
  output : w'.output = w.output
  size : w.heap.size ≤ w'.heap.size
  block : ∀ k, k < w.heap.size → k ≠ rb → some k ≠ row → w'.heap[k]? = w.heap[k]?

theorem Turned2.refl (w : World) (rb : Nat) (row : Option Nat) : Turned2 w rb row w := ⟨rfl, rfl, rfl, Nat.le_refl _, fun _ _ _ _ => rfl⟩
theorem Turned2.grown {w w' w'' : World} {rb : Nat} {row row' : Option Nat} (h : Turned2 w rb row w') (hg : w'.grownBy w'' row') (hr : row' = row ∨ row' = some rb ∨ row' = none) : Turned2 w rb row w'' := by
  refine ⟨hg.os.trans h.os, hg.tape.trans h.tape, hg.output.trans h.output, Nat.le_trans h.size hg.size, fun k hk h1 h2 => ?_⟩
  refine (hg.block k (Nat.lt_of_lt_of_le hk h.size) ?_).trans (h.block k hk h1 h2)
  rcases hr with rfl | rfl | rfl
  · exact h2
  · simpa using h1
  · simp

theorem heap_setCell_other2 {w : World} {b c i : Nat} {v : Value} (h : b ≠ c) : (w.setCell ⟨c, i, none⟩ v).heap[b]? = w.heap[b]? := by
  by_cases hb : b < w.heap.size
  · exact (grown_set w c i v).block b hb (by simpa using h)
  · rw [Array.getElem?_eq_none (by simp; omega), Array.getElem?_eq_none (by omega)]

/-- A level is written. -/
theorem IsRefB.setLevel {w : World} {rb g cap : Nat} {v : Value} {tm : Nat} {l : List (Sl.Subj × Sl.Lim)} {bs : List Bk} (h : IsRefB w rb v (.slice (some ⟨g, 0, none⟩) bs.length cap) tm l bs) (i : Nat) (hi : i < bs.length) (lv : Nat) :
    IsRefB (w.setCell ⟨g, i * 4 + 3, none⟩ (.int .i64 lv)) rb v (.slice (some ⟨g, 0, none⟩) bs.length cap) tm l (bs.set i { bs[i] with level := lv }) := by
  have hgB : ∃ cs fz, w.heap[g]? = some (.cells cs 183 fz) := by
    rcases h.ownB.2 with ⟨e1, _⟩ | ⟨g', cap', cur, e1, hb, hg, _⟩
    · cases e1
    · cases e1; exact ⟨_, _, hg⟩
  obtain ⟨cs, fz, hgB⟩ := hgB
  have hne : rb ≠ g := by
    rintro rfl
    rw [h.at_] at hgB
    cases hgB
  refine ⟨(heap_setCell_other2 hne).trans h.at_, h.own.kept (grown_set w g _ _) ?_, ?_, h.ok, h.dflt, h.low⟩
  · rcases h.own.2 with ⟨e1, _⟩ | ⟨g', cap', cur, e1, hb, hg, _⟩
    · rw [e1]; exact .inl rfl
    · right
      rw [e1]
      simp only [Value.ownBlock]
      intro e2
      cases e2
      rw [hg] at hgB
      cases hgB
  · rw [bkAll_set bs i lv hi, List.length_set]
    exact own_set_at h.ownB _ _

end Go.Proofs.YthmhfilkgggagaaGreatDoor

namespace Go.Proofs.YthmhfilkgggagaaGreatDoor
open Go.RowKit Go.Maps Go.Sort

theorem IsRefB.setLevel2 {w : World} {rb g cap : Nat} {v u : Value} {tm : Nat} {l : List (Sl.Subj × Sl.Lim)} {bs : List Bk} (h : IsRefB w rb v (.slice (some ⟨g, 0, none⟩) bs.length cap) tm l bs) (i : Nat) (hi : i < bs.length) (lv : Nat) :
    IsRefB ((w.setCell ⟨g, i * 4 + 3, none⟩ u).setCell ⟨g, i * 4 + 3, none⟩ (.int .i64 lv)) rb v (.slice (some ⟨g, 0, none⟩) bs.length cap) tm l (bs.set i { bs[i] with level := lv }) := by
  have h1 := h.setLevel i hi lv
  have hne : rb ≠ g := by
    rintro rfl
    rcases h.ownB.2 with ⟨e1, _⟩ | ⟨g', cap', cur, e1, hb, hg, _⟩
    · cases e1
    · cases e1
      rw [h.at_] at hg
      cases hg
  have hrow : v.ownBlock = none ∨ v.ownBlock ≠ some g := by
    rcases h.own.2 with ⟨e1, _⟩ | ⟨g', cap', cur, e1, hb, hg, _⟩
    · rw [e1]; exact .inl rfl
    · right
      rw [e1]
      simp only [Value.ownBlock]
      intro e2
      cases e2
      rcases h.ownB.2 with ⟨e3, _⟩ | ⟨g2, cap2, cur2, e3, _, hg2, _⟩
      · cases e3
      · cases e3
        rw [hg] at hg2
        cases hg2
  refine ⟨(heap_setCell_other2 hne).trans ((heap_setCell_other2 hne).trans h.at_), (h.own.kept (grown_set w g _ _) hrow).kept (grown_set _ g _ _) hrow, ?_, h.ok, h.dflt, h.low⟩
  rw [bkAll_set bs i lv hi, List.length_set]
  have h2 := own_set_at (own_set_at h.ownB (i * 4 + 3) u) (i * 4 + 3) (.int .i64 lv)
  rw [List.set_set] at h2
  exact h2

theorem IsRefB.setTime {w : World} {rb : Nat} {v vB : Value} {tm : Nat} {l : List (Sl.Subj × Sl.Lim)} {bs : List Bk} (h : IsRefB w rb v vB tm l bs) (tm' : Nat) : IsRefB (w.setCell ⟨rb, 2, none⟩ (.int .i64 tm')) rb v vB tm' l bs := by
  refine ⟨heap_setCell_at h.at_ 2 _, h.own.kept (grown_set w rb 2 _) ?_, h.ownB.kept (grown_set w rb 2 _) ?_, h.ok, h.dflt, h.low⟩
  · rcases h.own.2 with ⟨e1, _⟩ | ⟨g', cap', cur, e1, hb, hg, _⟩
    · rw [e1]; exact .inl rfl
    · right
      rw [e1]
      simp only [Value.ownBlock]
      intro e2
      cases e2
      rw [h.at_] at hg
      cases hg
  · rcases h.ownB.2 with ⟨e1, _⟩ | ⟨g', cap', cur, e1, hb, hg, _⟩
    · rw [e1]; exact .inl rfl
    · right
      rw [e1]
      simp only [Value.ownBlock]
      intro e2
      cases e2
      rw [h.at_] at hg
      cases hg

theorem refTick_bad (rb : Nat) (v vB : Value) (tm : Nat) (l : List (Sl.Subj × Sl.Lim)) (bs : List Bk) (n : Int) (w : World) (h : IsRefB w rb v vB tm l bs) (ht : tm ≤ 1000000000000) (hb : n < 0 ∨ 1000000000000 < (tm : Int) + n) :
    Calls Tryz.prog 61 #[.pointer (some ⟨rb, 0, none⟩), .int .i64 n] w fun e w' => e = .returned (.int .i64 4) ∧ w' = w := by
  have c2 := h.cells.2.2.1
  have hrb := h.lt
  clear h
  by_cases h1 : n < 0
  · clear hb
    go_enter Tryz.func61, Tryz.ntmps61
    go_wp2
    go_ret
    exact ⟨rfl, rfl⟩
  · have h2 : 1000000000000 < (tm : Int) + n := by omega
    by_cases h3 : 1000000000000 < n
    · clear hb
      go_enter Tryz.func61, Tryz.ntmps61
      go_wp2
      go_ret
      exact ⟨rfl, rfl⟩
    · clear hb
      have h4 : n ≤ 1000000000000 := by omega
      go_enter Tryz.func61, Tryz.ntmps61
      go_wp2
      go_ret
      exact ⟨rfl, rfl⟩

theorem limitS_le {l : List (Sl.Subj × Sl.Lim)} (h : OkT l) (c : Nat) (org ten : List UInt8) : (limitS l c org ten).rate ≤ 1000000 := by
  unfold limitS
  split
  · cases hq : look l ⟨2, c, org, []⟩ with
    | none => exact (look_lim h _).1
    | some m => have := (look_lim h ⟨2, c, org, []⟩).1; rw [hq] at this; exact this
  · cases hq : look l ⟨3, c, org, ten⟩ with
    | none => exact (look_lim h _).1
    | some m => have := (look_lim h ⟨3, c, org, ten⟩).1; rw [hq] at this; exact this

end Go.Proofs.YthmhfilkgggagaaGreatDoor
