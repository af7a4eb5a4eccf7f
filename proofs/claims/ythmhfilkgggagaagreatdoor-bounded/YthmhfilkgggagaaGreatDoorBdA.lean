/-
  Apart: what is plain of it.
  Exact: blocks that are written, the dice beside the sluice, and what is plain of it.
  Bounded: moments, what lets through no more than a limit, and 'within'.
  Bounded: 'within'.
  Bounded: the twelve rows of moments beside the sluice and the dice.
  Bounded: the two statements that append a moment.
  Bounded: the statement that lets time pass.
  Bounded: what holds at every round, of the levels and the moments.
-/
import Derived.Test.YthmhfilkgggagaaGreatDoorKpA
import Derived.Test.YthmhfilkgggagaaGreatDoorLevB
import Derived.Deep.AppendLies
import Derived.Deep.RegionHeld3
namespace Go.Proofs.YthmhfilkgggagaaGreatDoor
open Go.RowKit Go.Maps Go.Sort

theorem orgW_inj {a b : Nat} (ha : a < 2) (hb : b < 2) (h : orgW a = orgW b) : a = b := by
  have : ∀ a b : Fin 2, orgW a.val = orgW b.val → a = b := by decide
  exact congrArg Fin.val (this ⟨a, ha⟩ ⟨b, hb⟩ h)

theorem tenW_inj {a b : Nat} (ha : a < 2) (hb : b < 2) (h : tenW a = tenW b) : a = b := by
  have : ∀ a b : Fin 2, tenW a.val = tenW b.val → a = b := by decide
  exact congrArg Fin.val (this ⟨a, ha⟩ ⟨b, hb⟩ h)

/-- The levels behind a first request. -/
theorem two_put (a b : Kb) (h : b ≠ a) (v : Nat) : putV (putV [] a v) b v = [(a, v), (b, v)] := by
  have e : (a == b) = false := by rw [beq_eq_false_iff_ne]; exact fun e => h e.symm
  simp [putV, e]

theorem levOf_two (a b q : Kb) (v : Nat) : levOf [(a, v), (b, v)] q = if q = a ∨ q = b then v else 0 := by
  unfold levOf
  by_cases h1 : q = a
  · subst h1; simp
  · by_cases h2 : q = b
    · subst h2
      have : (a == q) = false := by rw [beq_eq_false_iff_ne]; exact fun e => h1 e.symm
      simp [this]
    · have e1 : (a == q) = false := by rw [beq_eq_false_iff_ne]; exact fun e => h1 e.symm
      have e2 : (b == q) = false := by rw [beq_eq_false_iff_ne]; exact fun e => h2 e.symm
      simp [e1, e2, h1, h2]

theorem fall_two (l : List (Sl.Subj × Sl.Lim)) (n : Nat) (a b : Kb) (v : Nat) : fallV l n [(a, v), (b, v)] = (if n * (limK l a).rate < v then [(a, v - n * (limK l a).rate)] else []) ++ (if n * (limK l b).rate < v then [(b, v - n * (limK l b).rate)] else []) := by
  unfold fallV
  by_cases h1 : n * (limK l a).rate < v <;> by_cases h2 : n * (limK l b).rate < v <;> simp [h1, h2]

/-- The time behind which both have run dry, but for one nanosecond. -/
theorem dry_two (l : List (Sl.Subj × Sl.Lim)) (a b : Kb) (r : Nat) (ha : 0 < (limK l a).rate) (hb : 0 < (limK l b).rate) (hr : r = if (limK l a).rate < (limK l b).rate then (limK l a).rate else (limK l b).rate) :
    (1 ≤ (fallV l ((1000000000 + r - 1) / r - 1) [(a, 1000000000), (b, 1000000000)]).length ∧ (fallV l ((1000000000 + r - 1) / r - 1) [(a, 1000000000), (b, 1000000000)]).length ≤ 2) ∧
    fallV l 1 (fallV l ((1000000000 + r - 1) / r - 1) [(a, 1000000000), (b, 1000000000)]) = [] := by
  have hr0 : 0 < r := by rw [hr]; split <;> omega
  obtain ⟨K, hK⟩ : ∃ K, K = (1000000000 + r - 1) / r := ⟨_, rfl⟩
  have hK1 : K * r ≤ 1000000000 + r - 1 := by rw [hK]; exact Nat.div_mul_le_self _ _
  have hK2 : 1000000000 + r - 1 < (K + 1) * r := by
    have h1 := Nat.div_add_mod (1000000000 + r - 1) r
    have h2 := Nat.mod_lt (1000000000 + r - 1) hr0
    rw [← hK] at h1
    rw [Nat.add_mul, Nat.one_mul, Nat.mul_comm K r]
    omega
  rw [← hK]
  have hKp : 1 ≤ K := by
    rcases Nat.eq_zero_or_pos K with h | h
    · rw [h] at hK2; simp at hK2; omega
    · exact h
  obtain ⟨J, rfl⟩ : ∃ J, K = J + 1 := ⟨K - 1, by omega⟩
  have e1 : J + 1 - 1 = J := by omega
  rw [e1]
  have hlow : J * r < 1000000000 := by rw [Nat.add_mul, Nat.one_mul] at hK1; omega
  have hhigh : 1000000000 ≤ (J + 1) * r := by rw [Nat.add_mul, Nat.one_mul] at hK2; omega
  have hra : r ≤ (limK l a).rate := by rw [hr]; split <;> omega
  have hrb : r ≤ (limK l b).rate := by rw [hr]; split <;> omega
  have h1 : (J + 1) * r ≤ (J + 1) * (limK l a).rate := Nat.mul_le_mul_left _ hra
  have h2 : (J + 1) * r ≤ (J + 1) * (limK l b).rate := Nat.mul_le_mul_left _ hrb
  have hone : J * (limK l a).rate < 1000000000 ∨ J * (limK l b).rate < 1000000000 := by
    by_cases h : (limK l a).rate < (limK l b).rate
    · rw [if_pos h] at hr; rw [hr] at hlow; exact .inl hlow
    · rw [if_neg h] at hr; rw [hr] at hlow; exact .inr hlow
  rw [Nat.add_mul (n := J) (m := 1) (k := (limK l a).rate), Nat.one_mul] at h1
  rw [Nat.add_mul (n := J) (m := 1) (k := (limK l b).rate), Nat.one_mul] at h2
  generalize (J + 1) * r = JR at *
  rw [fall_two]
  refine ⟨?_, ?_⟩
  · split <;> split <;> simp <;> omega
  · unfold fallV
    split <;> split <;> simp
    all_goals omega

end Go.Proofs.YthmhfilkgggagaaGreatDoor

namespace Go.Proofs.YthmhfilkgggagaaGreatDoor
open Go.RowKit Go.Maps Go.Sort

/-- A block of the caller's own. -/
structure Blk (s : St) (W : World) (b : Nat) (t : TypeId) (cs : Array Value) : Prop where
  at_ : W.heap[b]? = some (.cells cs t (0, 0))
  off : ¬ s.foot b

theorem Blk.lt {s : St} {W : World} {b : Nat} {t : TypeId} {cs : Array Value} (h : Blk s W b t cs) : b < W.heap.size := (Array.getElem?_eq_some_iff.1 h.at_).1
theorem Blk.cell {s : St} {W : World} {b : Nat} {t : TypeId} {cs : Array Value} (h : Blk s W b t cs) (i : Nat) (v : Value) (hv : cs[i]? = some v) : W.cell? ⟨b, i, none⟩ = some v := by
  simp only [World.cell?, h.at_]; exact hv
theorem Blk.live {s : St} {W : World} {b : Nat} {t : TypeId} {cs : Array Value} (h : Blk s W b t cs) (i : Nat) : W.frozen? ⟨b, i, none⟩ = false := by simp [World.frozen?, h.at_]
theorem Blk.made {s : St} {W : World} (h : s.At W) (cs : Array Value) (t : TypeId) : Blk s (W.alloc (.cells cs t)) W.heap.size t cs := ⟨(MapKept.heap_alloc W _).1, fun hk => by have := h.lt hk; omega⟩
theorem Blk.only {s : St} {S : Nat → Prop} {W W' : World} {b : Nat} {t : TypeId} {cs : Array Value} (h : Blk s W b t cs) (ho : Only S W W') (hn : ¬ S b) : Blk s W' b t cs := ⟨(ho.block b h.lt hn).trans h.at_, h.off⟩
theorem Blk.went {s s' : St} {W W' : World} {b : Nat} {t : TypeId} {cs : Array Value} (h : Blk s W b t cs) (hw : Went s s' W W') : Blk s' W' b t cs :=
  ⟨(hw.only.block b h.lt h.off).trans h.at_, fun hk => by
    rcases hw.foot b hk with h3 | h3
    · exact h.off h3
    · have := h.lt; omega⟩
theorem Blk.set {s : St} {W : World} {b : Nat} {t : TypeId} {cs : Array Value} (h : Blk s W b t cs) (i : Nat) (v : Value) : Blk s (W.setCell ⟨b, i, none⟩ v) b t (cs.setIfInBounds i v) := ⟨heap_setCell_at h.at_ i v, h.off⟩
theorem Blk.far {s : St} {W : World} {b c : Nat} {t : TypeId} {cs : Array Value} (h : Blk s W b t cs) (i : Nat) (v : Value) (hn : c ≠ b) : Blk s (W.setCell ⟨c, i, none⟩ v) b t cs :=
  h.only (Only.grown (S := fun k => k = c) (grown_set W c i v) (fun k e _ => by cases e; rfl)) (fun e => hn e.symm)

theorem Way.only {w0 : World} {s : St} {S : Nat → Prop} {W W' : World} (h : Way w0 s W) (ho : Only S W W') (hd : ∀ k, s.foot k → ¬ S k) (hl : ∀ k, S k → w0.heap.size ≤ k) : Way w0 s W' :=
  ⟨IsSl.of_only h.at_ ho hd, ho.env h.env (fun k hk => Nat.le_trans h.low (hl k hk)), ho.old h.below hl, h.low, h.foot⟩
theorem Way.set {w0 : World} {s : St} {W : World} (h : Way w0 s W) (b i : Nat) (v : Value) (hb : ¬ s.foot b) (hl : w0.heap.size ≤ b) : Way w0 s (W.setCell ⟨b, i, none⟩ v) :=
  h.only (Only.grown (S := fun k => k = b) (grown_set W b i v) (fun k e _ => by cases e; rfl)) (fun k hk e => by subst e; exact hb hk) (fun k e => by subst e; exact hl)

theorem Dice.only {S : Nat → Prop} {W W' : World} {db B : Nat} (h : Dice W db B) (ho : Only S W W') (h1 : ¬ S db) (h2 : ∀ k, S k → B ≤ k) : Dice W' db B :=
  h.kept ⟨ho.os, ho.tape, ho.output, ho.size, fun k hk => ho.block k (Nat.lt_trans (Nat.lt_of_lt_of_le hk h.low) h.lt) (fun hS => by have := h2 k hS; omega)⟩ (ho.block db h.lt h1)

/-- What goes along in Exact: the sluice, the dice, a request and an answer. -/
structure Ex (w0 : World) (t : St) (W : World) (db bb nb : Nat) (big ans : Array Value) : Prop where
  way : Way w0 t W
  dice : Dice W db w0.heap.size
  doff : ¬ t.foot db
  big : Blk t W bb 65 big
  ans : Blk t W nb 61 ans
  ne : db ≠ bb ∧ db ≠ nb ∧ bb ≠ nb
  low : w0.heap.size ≤ bb ∧ w0.heap.size ≤ nb

section
variable {w0 : World} {t t' : St} {W W' : World} {db bb nb : Nat} {big ans : Array Value}

theorem Ex.went (h : Ex w0 t W db bb nb big ans) (hw : Went t t' W W') : Ex w0 t' W' db bb nb big ans :=
  ⟨h.way.went hw, h.dice.only hw.only h.doff (fun k hk => h.way.foot k hk), fun hk => by
    rcases hw.foot db hk with h3 | h3
    · exact h.doff h3
    · have := h.dice.lt; omega, h.big.went hw, h.ans.went hw, h.ne, h.low⟩

theorem Ex.below (h : Ex w0 t W db bb nb big ans) (hb : Below W.heap.size W W') : Ex w0 t W' db bb nb big ans := h.went (Went.of_below h.way.at_ hb)

theorem Ex.rolled (h : Ex w0 t W db bb nb big ans) (hd : Dice W' db w0.heap.size) (hg : W.grownBy W' (some db)) : Ex w0 t W' db bb nb big ans := by
  have ho : Only (fun k => k = db) W W' := Only.grown hg (fun k e _ => by cases e; rfl)
  exact ⟨h.way.only ho (fun k hk e => by subst e; exact h.doff hk) (fun k e => by subst e; exact h.dice.low), hd, h.doff, h.big.only ho (fun e => h.ne.1 e.symm), h.ans.only ho (fun e => h.ne.2.1 e.symm), h.ne, h.low⟩

theorem Ex.setBig (h : Ex w0 t W db bb nb big ans) (i : Nat) (v : Value) : Ex w0 t (W.setCell ⟨bb, i, none⟩ v) db bb nb (big.setIfInBounds i v) ans :=
  ⟨h.way.set bb i v h.big.off h.low.1, h.dice.set h.low.1 h.ne.1 v, h.doff, h.big.set i v, h.ans.far i v h.ne.2.2, h.ne, h.low⟩

theorem Ex.setAns (h : Ex w0 t W db bb nb big ans) (i : Nat) (v : Value) : Ex w0 t (W.setCell ⟨nb, i, none⟩ v) db bb nb big (ans.setIfInBounds i v) :=
  ⟨h.way.set nb i v h.ans.off h.low.2, h.dice.set h.low.2 h.ne.2.1 v, h.doff, h.big.far i v (fun e => h.ne.2.2 e.symm), h.ans.set i v, h.ne, h.low⟩

theorem Ex.setAns3 (h : Ex w0 t W db bb nb big ans) (hz : ans.size = 3) (a b c : Value) : Ex w0 t (((W.setCell ⟨nb, 0, none⟩ a).setCell ⟨nb, 1, none⟩ b).setCell ⟨nb, 2, none⟩ c) db bb nb big #[a, b, c] := by
  have h3 := ((h.setAns 0 a).setAns 1 b).setAns 2 c
  have e : ((ans.setIfInBounds 0 a).setIfInBounds 1 b).setIfInBounds 2 c = #[a, b, c] := by
    match ans, hz with
    | ⟨[x, y, z]⟩, _ => rfl
  rw [e] at h3
  exact h3
end

/-- A wait is as much shorter as time has gone by. -/
theorem wait_less (L r B Q n : Nat) (hr : 0 < r) (hQ : Q ≤ B) : waitV (L - n * r) r B Q = waitV L r B Q - n := by
  unfold waitV
  obtain ⟨E, hE⟩ : ∃ E, E = L + Q * 1000000000 - B * 1000000000 := ⟨_, rfl⟩
  obtain ⟨X, hX⟩ : ∃ X, X = n * r := ⟨_, rfl⟩
  have e1 : L - n * r + Q * 1000000000 - B * 1000000000 = E - X := by rw [hE, hX]; omega
  rw [e1, ← hE]
  by_cases h : X ≤ E
  · have e2 : E + r - 1 = (E - X + r - 1) + n * r := by rw [← hX]; omega
    rw [e2, Nat.add_mul_div_right _ _ hr, Nat.add_sub_cancel]
  · have e3 : (E - X + r - 1) / r = 0 := by rw [Nat.div_eq_zero_iff]; right; omega
    have e4 : (E + r - 1) / r ≤ n := by
      rw [← Nat.lt_succ_iff, Nat.div_lt_iff_lt_mul hr, Nat.succ_mul, ← hX]
      omega
    rw [e3]
    omega

/-- What is decided where there is room, of a cost that is above neither burst. -/
theorem admit_roomy (l : List (Sl.Subj × Sl.Lim)) (lv : Lv) (k : Kb) (Q : Nat) (h1 : Q ≤ (limK l (k.1, k.2.1, [])).burst) (h2 : Q ≤ (limK l k).burst) (hn : lv.length ≤ 2) (M Y : Nat) (hY : Y = (M + 1000000000 - 1) / 1000000000)
    (hM : M = max (waitV (levOf lv (k.1, k.2.1, [])) (limK l (k.1, k.2.1, [])).rate (limK l (k.1, k.2.1, [])).burst Q) (waitV (levOf lv k) (limK l k).rate (limK l k).burst Q)) :
    (M = 0 → (admitS l lv k Q).1 = (204, 0, 0)) ∧ (0 < M → admitS l lv k Q = ((429, M, Y), lv)) := by
  unfold admitS
  rw [hY]
  rw [if_neg (by omega), emptyN_two, if_neg (by split <;> split <;> omega), ← hM]
  refine ⟨fun h => ?_, fun h => ?_⟩
  · rw [if_neg (by omega)]
  · rw [if_pos h]

theorem retry_eq (M b : Nat) (hb : 0 < b) : ((M : Int) + (b : Int) - 1) / (b : Int) = ((M + b - 1) / b : Nat) ∧ ((M : Int) + (b : Int) - 1).tdiv (b : Int) = ((M + b - 1) / b : Nat) := by
  have e : (M : Int) + (b : Int) - 1 = ((M + b - 1 : Nat) : Int) := by omega
  have e1 : ((M : Int) + (b : Int) - 1) / (b : Int) = ((M + b - 1) / b : Nat) := by rw [e]; exact (Int.natCast_ediv _ _).symm
  exact ⟨e1, by rw [Int.tdiv_eq_ediv_of_nonneg (by omega)]; exact e1⟩

theorem retry_one : 1 = (1 + 1000000000 - 1) / 1000000000 := by
  rw [Nat.add_sub_cancel_left]

/-- How long both must wait. -/
def waitB (l : List (Sl.Subj × Sl.Lim)) (lv : Lv) (k : Kb) (Q : Nat) : Nat := max (waitV (levOf lv (k.1, k.2.1, [])) (limK l (k.1, k.2.1, [])).rate (limK l (k.1, k.2.1, [])).burst Q) (waitV (levOf lv k) (limK l k).rate (limK l k).burst Q)

theorem wait_fall (l : List (Sl.Subj × Sl.Lim)) {lv : Lv} (hv : OkV lv) (k : Kb) (Q n : Nat) (h1 : Q ≤ (limK l (k.1, k.2.1, [])).burst) (h2 : Q ≤ (limK l k).burst) (r1 : 0 < (limK l (k.1, k.2.1, [])).rate) (r2 : 0 < (limK l k).rate) : waitB l (fallV l n lv) k Q = waitB l lv k Q - n := by
  unfold waitB
  rw [levOf_fall hv, levOf_fall hv, wait_less _ _ _ _ _ r1 h1, wait_less _ _ _ _ _ r2 h2]
  generalize waitV (levOf lv (k.1, k.2.1, [])) (limK l (k.1, k.2.1, [])).rate (limK l (k.1, k.2.1, [])).burst Q = a
  generalize waitV (levOf lv k) (limK l k).rate (limK l k).burst Q = b
  omega

theorem wait_bound (l : List (Sl.Subj × Sl.Lim)) (lv : Lv) (k : Kb) (Q X R : Nat) (h1 : Q ≤ (limK l (k.1, k.2.1, [])).burst) (h2 : Q ≤ (limK l k).burst) (r1 : (limK l (k.1, k.2.1, [])).rate ≤ R) (r2 : (limK l k).rate ≤ R) (l1 : levOf lv (k.1, k.2.1, []) ≤ X) (l2 : levOf lv k ≤ X) : waitB l lv k Q ≤ X + R := by
  unfold waitB waitV
  refine Nat.max_le.2 ⟨Nat.le_trans (Nat.div_le_self _ _) (by omega), Nat.le_trans (Nat.div_le_self _ _) (by omega)⟩

/-- A second request of the caller's own beside the first. -/
theorem Blk.alloc {s : St} {W : World} {b : Nat} {t : TypeId} {cs : Array Value} (h : Blk s W b t cs) (o : Obj) : Blk s (W.alloc o) b t cs := h.only (Only.below (S := fun _ => False) (Below.alloc1 W o)) (fun h => h)

end Go.Proofs.YthmhfilkgggagaaGreatDoor

namespace Go.Proofs.YthmhfilkgggagaaGreatDoor
open Go.RowKit Go.Maps Go.Sort

abbrev Mo := Nat × Nat

def moSum (ms : List Mo) : Nat := (ms.map (·.2)).sum
def moAt (ms : List Mo) (i : Nat) : Nat := (ms[i]?.getD (0, 0)).1

theorem moSum_append (a b : List Mo) : moSum (a ++ b) = moSum a + moSum b := by simp [moSum]
theorem moSum_one (m : Mo) : moSum [m] = m.2 := by simp [moSum]

/-- Between any two moments no more than the burst, and what the rate gives. -/
def Fits (r b : Nat) (ms : List Mo) : Prop := ∀ i k, i ≤ k → k < ms.length → 1000000000 * moSum ((ms.take (k + 1)).drop i) ≤ r * (moAt ms k - moAt ms i) + 1000000000 * b ∧ moAt ms i ≤ moAt ms k

/-- The moments of a bucket, its level, the time. -/
structure Inv (lev r b T : Nat) (ms : List Mo) : Prop where
  time : ∀ m ∈ ms, m.1 ≤ T
  since : ∀ i, i < ms.length → 1000000000 * moSum (ms.drop i) ≤ lev + r * (T - moAt ms i)
  fits : Fits r b ms

theorem Inv.nil (lev r b T : Nat) : Inv lev r b T [] := ⟨by simp, by simp, fun i k _ h => by simp at h⟩

theorem moAt_le {ms : List Mo} {T : Nat} (h : ∀ m ∈ ms, m.1 ≤ T) (i : Nat) : moAt ms i ≤ T := by
  unfold moAt
  cases e : ms[i]? with
  | none => simp
  | some m => simpa using h m (List.mem_of_getElem? e)

theorem Inv.tick {lev r b T : Nat} {ms : List Mo} (h : Inv lev r b T ms) (d : Nat) : Inv (lev - d * r) r b (T + d) ms := by
  refine ⟨fun m hm => Nat.le_trans (h.time m hm) (by omega), fun i hi => ?_, h.fits⟩
  have h1 := h.since i hi
  have h2 := moAt_le h.time i
  have e : r * (T + d - moAt ms i) = r * (T - moAt ms i) + d * r := by
    rw [show T + d - moAt ms i = (T - moAt ms i) + d by omega, Nat.mul_add, Nat.mul_comm r d]
  rw [e]
  omega

theorem moAt_left (ms : List Mo) (m : Mo) (i : Nat) (h : i < ms.length) : moAt (ms ++ [m]) i = moAt ms i := by
  unfold moAt
  rw [List.getElem?_append_left h]

theorem moAt_last (ms : List Mo) (m : Mo) : moAt (ms ++ [m]) ms.length = m.1 := by
  simp [moAt]

theorem Inv.pass {lev r b T : Nat} {ms : List Mo} (h : Inv lev r b T ms) (Q : Nat) (hb : lev + Q * 1000000000 ≤ b * 1000000000) : Inv (lev + Q * 1000000000) r b T (ms ++ [(T, Q)]) := by
  have hs : ∀ i, i < (ms ++ [(T, Q)]).length → 1000000000 * moSum ((ms ++ [(T, Q)]).drop i) ≤ lev + Q * 1000000000 + r * (T - moAt (ms ++ [(T, Q)]) i) := by
    intro i hi
    rw [List.length_append] at hi
    by_cases hl : i < ms.length
    · have h1 := h.since i hl
      rw [moAt_left _ _ _ hl, List.drop_append_of_le_length (by omega), moSum_append, moSum_one]
      simp only []
      omega
    · have e : i = ms.length := by simp at hi; omega
      subst e
      rw [List.drop_left, moSum_one]
      simp only []
      omega
  have ht : ∀ m ∈ ms ++ [(T, Q)], m.1 ≤ T := by
    intro m hm
    rcases List.mem_append.1 hm with hm | hm
    · exact h.time m hm
    · simp at hm; rw [hm]; exact Nat.le_refl _
  refine ⟨ht, hs, fun i k hik hk => ?_⟩
  by_cases hl : k < ms.length
  · have h1 := h.fits i k hik hl
    rw [moAt_left _ _ _ hl, moAt_left _ _ _ (by omega), List.take_append_of_le_length (by omega)]
    exact h1
  · have e : k = ms.length := by simp at hk; omega
    subst e
    have h1 := hs i (by simp; omega)
    rw [moAt_last, List.take_of_length_le (by simp)]
    refine ⟨?_, moAt_le ht i⟩
    simp only []
    omega

/-- The cells of a row of moments. -/
def moC (m : Mo) : List Value := [.int .i64 m.1, .int .i64 m.2]
def moAll (ms : List Mo) : List Value := ms.flatMap moC

theorem moAll_snoc (ms : List Mo) (m : Mo) : moAll (ms ++ [m]) = moAll ms ++ moC m := by simp [moAll]
theorem moAll_len (ms : List Mo) : (moAll ms).length = ms.length * 2 := by
  induction ms with
  | nil => rfl
  | cons a r ih => rw [show moAll (a :: r) = moC a ++ moAll r from rfl, List.length_append, ih]; simp [moC]; omega

theorem moAll_at (ms : List Mo) (k : Nat) (hk : k < ms.length) (j : Nat) (hj : j < 2) : (moAll ms)[k * 2 + j]? = (moC ms[k])[j]? := by
  induction ms generalizing k with
  | nil => simp at hk
  | cons a r ih =>
    rw [show moAll (a :: r) = moC a ++ moAll r from rfl]
    cases k with
    | zero => rw [List.getElem?_append_left (by simp [moC]; omega)]; simp
    | succ k =>
      rw [List.getElem?_append_right (by simp [moC]; omega)]
      have := ih k (by simpa using hk)
      rw [show (k + 1) * 2 + j - (moC a).length = k * 2 + j by simp [moC]; omega, this]
      rfl

theorem moAt_eq (ms : List Mo) (k : Nat) (hk : k < ms.length) : moAt ms k = ms[k].1 := by
  unfold moAt
  rw [List.getElem?_eq_getElem hk]; rfl

/-- A row of moments that can be read. -/
def MoRow (w : World) (v : Value) (ms : List Mo) : Prop := (ms = [] ∧ v = .slice none 0 0) ∨ ∃ g cap, v = .slice (some ⟨g, 0, none⟩) ms.length cap ∧ g < w.heap.size ∧ ∀ j u, (moAll ms)[j]? = some u → w.cell? ⟨g, j, none⟩ = some u

theorem sum_step (ms : List Mo) (i k : Nat) (hik : i ≤ k) (hk : k < ms.length) : moSum ((ms.take (k + 1)).drop i) = moSum ((ms.take k).drop i) + ms[k].2 := by
  rw [List.take_succ_eq_append_getElem hk, List.drop_append_of_le_length (by rw [List.length_take]; omega), moSum_append, moSum_one]

theorem sum_le {ms : List Mo} (h : ∀ m ∈ ms, m.2 ≤ 12) (i k : Nat) : moSum ((ms.take k).drop i) ≤ 12 * ms.length := by
  have h1 : ∀ l : List Mo, (∀ m ∈ l, m.2 ≤ 12) → moSum l ≤ 12 * l.length := by
    intro l hl
    induction l with
    | nil => simp [moSum]
    | cons a r ih =>
      have := ih (fun m hm => hl m (List.mem_cons_of_mem _ hm))
      have h2 := hl a (List.mem_cons_self ..)
      simp only [moSum, List.map_cons, List.sum_cons, List.length_cons] at *
      omega
  have h2 := h1 ((ms.take k).drop i) (fun m hm => h m (List.mem_of_mem_take (List.mem_of_mem_drop hm)))
  have h3 : ((ms.take k).drop i).length ≤ ms.length := by simp; omega
  omega

end Go.Proofs.YthmhfilkgggagaaGreatDoor

namespace Go.Proofs.YthmhfilkgggagaaGreatDoor
open Go.RowKit Go.Maps Go.Sort

theorem within_none (r b : Nat) (w : World) :
    Calls Tryz.prog 32 #[.slice none 0 0, .agg #[.int .i64 r, .int .i64 b]] w fun e w' => e = .returned (.bool true) ∧ Below w.heap.size w w' := by
  have hb := Below.alloc1 w (.cells #[.int .i64 r, .int .i64 b] 27)
  obtain ⟨WA, hWA⟩ : ∃ WA, WA = w.alloc (.cells #[.int .i64 r, .int .i64 b] 27) := ⟨_, rfl⟩
  rw [← hWA] at hb
  have HB := hide hb; have HW := hide hWA
  clear hb hWA
  go_enter Tryz.func32, Tryz.ntmps32
  go_wp2_with fail
  rw [← unhide HW]
  go_loopw [5] (fun t wr => wr = WA ∧ t = .int .i64 0) (fun t _ => 1 - (intOf t).toNat)
  case atStart => exact ⟨rfl, rfl⟩
  case round =>
    obtain ⟨rfl, rfl⟩ := hrel
    go_wp2
    go_ret
    exact ⟨rfl, unhide HB⟩

set_option maxRecDepth 100000 in
set_option maxHeartbeats 4000000 in
theorem within_some (ms : List Mo) (g cap r b : Nat) (w : World) (hg : g < w.heap.size) (hc : ∀ j u, (moAll ms)[j]? = some u → w.cell? ⟨g, j, none⟩ = some u) (hn : ms.length ≤ 60) (hr : r ≤ 50) (hb : b ≤ 30) (ht : ∀ m ∈ ms, m.1 ≤ 1000000000000) (hq : ∀ m ∈ ms, m.2 ≤ 12) (hf : Fits r b ms) :
    Calls Tryz.prog 32 #[.slice (some ⟨g, 0, none⟩) ms.length cap, .agg #[.int .i64 r, .int .i64 b]] w fun e w' => e = .returned (.bool true) ∧ Below w.heap.size w w' := by
  have hba := Below.alloc1 w (.cells #[.int .i64 r, .int .i64 b] 27)
  have hza := Two.made w (.int .i64 r) (.int .i64 b) 27
  obtain ⟨WA, hWA⟩ : ∃ WA, WA = w.alloc (.cells #[.int .i64 r, .int .i64 b] 27) := ⟨_, rfl⟩
  rw [← hWA] at hba hza
  have hsz : WA.heap.size = w.heap.size + 1 := by rw [hWA]; simp
  obtain ⟨N, hN⟩ : ∃ N, N = ms.length := ⟨_, rfl⟩
  rw [← hN] at hn ⊢
  have HB := hide hba; have HW := hide hWA; have HC := hide hc; have HF := hide hf; have HT := hide ht; have HQ := hide hq; have HZ := hide hza; have HS := hide hsz; have HN := hide hN; have HG := hide hg
  clear hba hWA hc hf ht hq hza hsz hN hg
  generalize hwb : w.heap.size = wb at *
  have HWB := hide hwb
  clear hwb
  go_enter Tryz.func32, Tryz.ntmps32
  go_wp2_with fail
  rw [← unhide HW]
  rw [unhide HWB]
  go_loopw [5] (fun t wr => Below WA.heap.size WA wr ∧ ∃ i : Nat, i ≤ N ∧ t = .int .i64 i) (fun t _ => N - (intOf t).toNat)
  case atStart => exact ⟨Below.refl _ _, 0, by omega, rfl⟩
  case round =>
    obtain ⟨hbw, i, hi, rfl⟩ := hrel
    have HBW := hide hbw; clear hbw
    by_cases hlt : i < N
    · go_wp2_with fail
      go_loopw [6, 7] (fun v6 v7 wr => Below WA.heap.size WA wr ∧ ∃ k : Nat, i ≤ k ∧ k ≤ N ∧ v7 = .int .i64 k ∧ v6 = .int .i64 (moSum ((ms.take k).drop i) : Nat)) (fun _ v7 _ => N - (intOf v7).toNat)
      case atStart => exact ⟨unhide HBW, i, Nat.le_refl _, by omega, rfl, by rw [List.drop_of_length_le (by simp; omega)]; rfl⟩
      case round =>
        obtain ⟨hbw, k, hik, hk, rfl, rfl⟩ := hrel
        by_cases hkl : k < N
        · have hkm : k < ms.length := by rw [← unhide HN]; exact hkl
          have him : i < ms.length := by rw [← unhide HN]; omega
          have e1 := sum_step ms i k hik hkm
          have hs1 := sum_le (unhide HQ) i (k + 1)
          have hs0 := sum_le (unhide HQ) i k
          obtain ⟨hfit, hle⟩ := unhide HF i k hik hkm
          have hbk := hbw.cell (p := ⟨wb, 0, none⟩) (by rw [unhide HS]; show wb < wb + 1; omega)
          have hbk1 := hbw.cell (p := ⟨wb, 1, none⟩) (by rw [unhide HS]; show wb < wb + 1; omega)
          obtain ⟨z0, z1, -, -, -⟩ := unhide HZ
          rw [z0] at hbk
          rw [z1] at hbk1
          have row : ∀ j u, (moAll ms)[j]? = some u → wr.cell? ⟨g, j, none⟩ = some u := fun j u hu => by
            rw [hbw.cell (p := ⟨g, j, none⟩) (by rw [unhide HS]; have := unhide HG; show g < wb + 1; omega), (unhide HB).cell (p := ⟨g, j, none⟩) (unhide HG)]
            exact unhide HC j u hu
          have ck0 := row (k * 2 + 0) (.int .i64 ms[k].1) (by rw [moAll_at ms k hkm 0 (by omega)]; rfl)
          have ck1 := row (k * 2 + 1) (.int .i64 ms[k].2) (by rw [moAll_at ms k hkm 1 (by omega)]; rfl)
          have ci0 := row (i * 2 + 0) (.int .i64 ms[i].1) (by rw [moAll_at ms i him 0 (by omega)]; rfl)
          rw [Nat.add_zero] at ck0 ci0
          have tk := unhide HT ms[k] (List.getElem_mem hkm)
          have ti := unhide HT ms[i] (List.getElem_mem him)
          have qk := unhide HQ ms[k] (List.getElem_mem hkm)
          rw [moAt_eq _ _ hkm, moAt_eq _ _ him] at hfit hle
          rw [← unhide HN] at hs1 hs0
          generalize hse : moSum ((ms.take (k + 1)).drop i) = S1 at *
          have HSE := hide hse
          generalize moSum ((ms.take k).drop i) = S0 at *
          generalize hak : ms[k].1 = ak at *
          generalize hqk : ms[k].2 = q at *
          generalize hai : ms[i].1 = ai at *
          obtain ⟨D, hD⟩ : ∃ D, D = ak - ai := ⟨_, rfl⟩
          obtain ⟨P, hP⟩ : ∃ P, P = r * D := ⟨_, rfl⟩
          have hPb : P ≤ 50 * 1000000000000 := by rw [hP]; exact Nat.mul_le_mul hr (by omega)
          have eD : (ak : Int) - (ai : Int) = (D : Int) := by omega
          have eP : (r : Int) * (D : Int) = (P : Int) := by rw [hP]; exact (Int.natCast_mul r D).symm
          have eS : (S0 : Int) + (q : Int) = (S1 : Int) := by rw [e1]; exact (Int.natCast_add S0 q).symm
          rw [← hD, ← hP] at hfit
          have hgt : ¬ ((P : Int) + 1000000000 * (b : Int) < 1000000000 * (S1 : Int)) := by omega
          have hS1 : S1 ≤ 720 := by omega
          have hS0 : S0 ≤ 720 := by omega
          have w1 : IntKind.i64.wrap (1000000000 * (S1 : Int)) = 1000000000 * (S1 : Int) := IntWalk.i64_in _ ⟨by omega, by omega⟩
          have w2 : IntKind.i64.wrap (D : Int) = (D : Int) := IntWalk.i64_in _ ⟨by omega, by omega⟩
          have w3 : IntKind.i64.wrap (P : Int) = (P : Int) := IntWalk.i64_in _ ⟨by omega, by omega⟩
          have w4 : IntKind.i64.wrap (1000000000 * (b : Int)) = 1000000000 * (b : Int) := IntWalk.i64_in _ ⟨by omega, by omega⟩
          have w5 : IntKind.i64.wrap ((P : Int) + 1000000000 * (b : Int)) = (P : Int) + 1000000000 * (b : Int) := IntWalk.i64_in _ ⟨by omega, by omega⟩
          have HBW2 := hide hbw
          clear hbw row z0 z1 hD hP e1 hfit hle hs1 hs0 hak hqk hai hkm him hse
          have HIK := hide hik
          clear hik
          go_wp2_with fail
          go_region_held3 (fun w' => w' = wr.drew) (first | rfl | assumption) (fail)
          go_wp2
          go_roundw
          case rel => exact ⟨(unhide HBW2).drew, k + 1, Nat.le_succ_of_le (unhide HIK), by omega, by go_num, by rw [unhide HSE]⟩
          case measure => simp [intOf]; omega
        · go_wp2
          go_roundw
          case rel => exact ⟨hbw, i + 1, by omega, by go_num⟩
          case measure => simp [intOf]; omega
    · go_wp2
      go_ret
      exact ⟨rfl, ((unhide HB).trans ((unhide HBW).mono (by rw [unhide HS]; omega)))⟩

end Go.Proofs.YthmhfilkgggagaaGreatDoor

namespace Go.Proofs.YthmhfilkgggagaaGreatDoor
open Go.RowKit Go.Maps Go.Sort

theorem within_any (ms : List Mo) (v : Value) (r b : Nat) (w : World) (h : MoRow w v ms) (hn : ms.length ≤ 60) (hr : r ≤ 50) (hb : b ≤ 30) (ht : ∀ m ∈ ms, m.1 ≤ 1000000000000) (hq : ∀ m ∈ ms, m.2 ≤ 12) (hf : Fits r b ms) :
    Calls Tryz.prog 32 #[v, .agg #[.int .i64 r, .int .i64 b]] w fun e w' => e = .returned (.bool true) ∧ Below w.heap.size w w' := by
  rcases h with ⟨rfl, rfl⟩ | ⟨g, cap, rfl, hg, hc⟩
  · exact within_none r b w
  · exact within_some ms g cap r b w hg hc hn hr hb ht hq hf

abbrev MoOwn (w : World) (B : Nat) (v : Value) (ms : List Mo) : Prop := w.ownsRow B 68 2 v ms.length (moAll ms)

theorem MoOwn.row {w : World} {B : Nat} {v : Value} {ms : List Mo} (h : MoOwn w B v ms) : MoRow w v ms := by
  rcases h.2 with ⟨e, e0⟩ | ⟨g, cap, cur, e, _, hg, h1, h2, h3, h4⟩
  · exact .inl ⟨List.eq_nil_of_length_eq_zero e0, e⟩
  · refine .inr ⟨g, cap, e, (Array.getElem?_eq_some_iff.1 hg).1, fun j u hu => ?_⟩
    have hj : j < (moAll ms).length := (List.getElem?_eq_some_iff.1 hu).1
    have hl := moAll_len ms
    rw [← h4, List.getElem?_take_of_lt (by omega)] at hu
    simp only [World.cell?, hg]
    simpa using hu

theorem MoOwn.of_block {w w' : World} {B : Nat} {v : Value} {ms : List Mo} (h : MoOwn w B v ms) (hb : ∀ g, v.ownBlock = some g → w'.heap[g]? = w.heap[g]?) : MoOwn w' B v ms := row_of h hb

structure Bag (w0 : World) (s : St) (W : World) (db tb ob pb : Nat) (pcs : List Value) (cs : Nat → Value) (ms : Nat → List Mo) : Prop where
  way : Way w0 s W
  dice : Dice W db w0.heap.size
  doff : ¬ s.foot db
  ten : Blk s W tb 56 #[cs 0, cs 1, cs 2, cs 3, cs 4, cs 5, cs 6, cs 7]
  org : Blk s W ob 55 #[cs 8, cs 9, cs 10, cs 11]
  ne : tb ≠ ob ∧ tb ≠ db ∧ ob ≠ db
  low : w0.heap.size ≤ tb ∧ w0.heap.size ≤ ob ∧ w0.heap.size ≤ db
  own : ∀ j, MoOwn W w0.heap.size (cs j) (ms j)
  apart : ∀ i j g, i ≠ j → (cs i).ownBlock = some g → (cs j).ownBlock ≠ some g
  far : ∀ j g, (cs j).ownBlock = some g → ¬ s.foot g ∧ g ≠ tb ∧ g ≠ ob ∧ g ≠ db
  plan : Held s W pb pcs
  pne : pb ≠ tb ∧ pb ≠ ob ∧ pb ≠ db
  pfar : ∀ j, (cs j).ownBlock ≠ some pb

theorem Held.only {s : St} {S : Nat → Prop} {w w' : World} {b : Nat} {cs : List Value} (h : Held s w b cs) (ho : Only S w w') (hn : ¬ S b) : Held s w' b cs :=
  ⟨fun j v hv => (ho.cell h.lt hn).trans (h.at_ j v hv), Nat.lt_of_lt_of_le h.lt ho.size, h.off⟩

variable {w0 : World} {s t : St} {W W' : World} {db tb ob pb : Nat} {pcs : List Value} {cs : Nat → Value} {ms : Nat → List Mo}

theorem Bag.lt (h : Bag w0 s W db tb ob pb pcs cs ms) {j g : Nat} (hg : (cs j).ownBlock = some g) : g < W.heap.size := row_lt (h.own j) hg

theorem Bag.went (h : Bag w0 s W db tb ob pb pcs cs ms) (hw : Went s t W W') : Bag w0 t W' db tb ob pb pcs cs ms :=
  ⟨h.way.went hw, h.dice.only hw.only h.doff h.way.foot, fun hk => by
    rcases hw.foot _ hk with h3 | h3
    · exact h.doff h3
    · have := h.dice.lt; omega, h.ten.went hw, h.org.went hw, h.ne, h.low, fun j => (h.own j).of_block fun g hg => hw.only.block g (h.lt hg) (h.far j g hg).1, h.apart, fun j g hg => ⟨fun hk => by
    rcases hw.foot _ hk with h3 | h3
    · exact (h.far j g hg).1 h3
    · have := h.lt hg; omega, (h.far j g hg).2⟩, h.plan.went hw, h.pne, h.pfar⟩

theorem Bag.below (h : Bag w0 s W db tb ob pb pcs cs ms) (hb : Below W.heap.size W W') : Bag w0 s W' db tb ob pb pcs cs ms := h.went (Went.of_below h.way.at_ hb)

theorem Bag.drew (h : Bag w0 s W db tb ob pb pcs cs ms) : Bag w0 s W.drew db tb ob pb pcs cs ms := h.below (Below.refl _ _).drew

theorem Bag.rolled (h : Bag w0 s W db tb ob pb pcs cs ms) (hd : Dice W' db w0.heap.size) (hg : W.grownBy W' (some db)) : Bag w0 s W' db tb ob pb pcs cs ms := by
  have ho : Only (fun k => k = db) W W' := Only.grown hg (fun k e _ => by cases e; rfl)
  exact ⟨h.way.only ho (fun k hk e => h.doff (e ▸ hk)) (fun k e => e ▸ h.low.2.2), hd, h.doff, h.ten.only ho h.ne.2.1, h.org.only ho h.ne.2.2, h.ne, h.low, fun j => (h.own j).of_block fun g hg => ho.block g (h.lt hg) (h.far j g hg).2.2.2, h.apart, h.far, h.plan.only ho h.pne.2.2, h.pne, h.pfar⟩

/-- One row more than it was, at its place. -/
def setAt {α : Type} (f : Nat → α) (j : Nat) (x : α) : Nat → α := fun i => if i = j then x else f i

theorem setAt_at {α : Type} (f : Nat → α) (j : Nat) (x : α) : setAt f j x j = x := by simp [setAt]
theorem setAt_ne {α : Type} (f : Nat → α) {j i : Nat} (x : α) (h : i ≠ j) : setAt f j x i = f i := by simp [setAt, h]

theorem ten_set (f : Nat → Value) (j : Nat) (hj : j < 8) (x : Value) : (#[f 0, f 1, f 2, f 3, f 4, f 5, f 6, f 7] : Array Value).setIfInBounds j x = #[setAt f j x 0, setAt f j x 1, setAt f j x 2, setAt f j x 3, setAt f j x 4, setAt f j x 5, setAt f j x 6, setAt f j x 7] := by
  match j, hj with
  | 0, _ | 1, _ | 2, _ | 3, _ | 4, _ | 5, _ | 6, _ | 7, _ => simp [setAt]

theorem org_set (f : Nat → Value) (j : Nat) (hj : j < 4) (x : Value) : (#[f 8, f 9, f 10, f 11] : Array Value).setIfInBounds j x = #[setAt f (8 + j) x 8, setAt f (8 + j) x 9, setAt f (8 + j) x 10, setAt f (8 + j) x 11] := by
  match j, hj with
  | 0, _ | 1, _ | 2, _ | 3, _ => simp [setAt]

theorem org_keep (f : Nat → Value) (j : Nat) (hj : j < 8) (x : Value) : (#[setAt f j x 8, setAt f j x 9, setAt f j x 10, setAt f j x 11] : Array Value) = #[f 8, f 9, f 10, f 11] := by
  rw [setAt_ne _ _ (by omega), setAt_ne _ _ (by omega), setAt_ne _ _ (by omega), setAt_ne _ _ (by omega)]

theorem ten_keep (f : Nat → Value) (j : Nat) (x : Value) : (#[setAt f (8 + j) x 0, setAt f (8 + j) x 1, setAt f (8 + j) x 2, setAt f (8 + j) x 3, setAt f (8 + j) x 4, setAt f (8 + j) x 5, setAt f (8 + j) x 6, setAt f (8 + j) x 7] : Array Value) = #[f 0, f 1, f 2, f 3, f 4, f 5, f 6, f 7] := by
  rw [setAt_ne _ _ (by omega), setAt_ne _ _ (by omega), setAt_ne _ _ (by omega), setAt_ne _ _ (by omega), setAt_ne _ _ (by omega), setAt_ne _ _ (by omega), setAt_ne _ _ (by omega), setAt_ne _ _ (by omega)]

theorem ten_at (f : Nat → Value) (j : Nat) (hj : j < 8) : (#[f 0, f 1, f 2, f 3, f 4, f 5, f 6, f 7] : Array Value)[j]? = some (f j) := by
  match j, hj with
  | 0, _ | 1, _ | 2, _ | 3, _ | 4, _ | 5, _ | 6, _ | 7, _ => rfl

theorem org_at (f : Nat → Value) (j : Nat) (hj : j < 4) : (#[f 8, f 9, f 10, f 11] : Array Value)[j]? = some (f (8 + j)) := by
  match j, hj with
  | 0, _ | 1, _ | 2, _ | 3, _ => rfl

/-- What an append leaves, ahead of the store: all but the row itself. -/
structure Grew (w0 : World) (s : St) (W W1 : World) (db tb ob pb : Nat) (pcs : List Value) (cs : Nat → Value) (ms : Nat → List Mo) (j g cap : Nat) (m : Mo) : Prop where
  bag : Bag w0 s W db tb ob pb pcs cs ms
  own : MoOwn W1 w0.heap.size (.slice (some ⟨g, 0, none⟩) ((ms j).length + 1) cap) (ms j ++ [m])
  grow : W.grownBy W1 (cs j).ownBlock
  at_ : (cs j).ownBlock = some g ∨ g = W.heap.size
  lt : g < W1.heap.size

theorem Grew.block {W1 : World} {j g cap : Nat} {m : Mo} (h : Grew w0 s W W1 db tb ob pb pcs cs ms j g cap m) {k : Nat} (hk : k < W.heap.size) (hn : (cs j).ownBlock ≠ some k) : W1.heap[k]? = W.heap[k]? := h.grow.block k hk (fun e => hn e.symm)

theorem Grew.store {W1 : World} {j g cap : Nat} {m : Mo} (h : Grew w0 s W W1 db tb ob pb pcs cs ms j g cap m) (B : Nat) (i : Nat) (hB : B = tb ∧ i = j ∧ j < 8 ∨ B = ob ∧ j = 8 + i ∧ i < 4) :
    Bag w0 s (W1.setCell ⟨B, i, none⟩ (.slice (some ⟨g, 0, none⟩) ((ms j).length + 1) cap)) db tb ob pb pcs (setAt cs j (.slice (some ⟨g, 0, none⟩) ((ms j).length + 1) cap)) (setAt ms j (ms j ++ [m])) := by
  have b := h.bag
  have hBl : B < W.heap.size ∧ w0.heap.size ≤ B ∧ ¬ s.foot B ∧ B ≠ db := by
    rcases hB with ⟨rfl, _⟩ | ⟨rfl, _⟩
    · exact ⟨b.ten.lt, b.low.1, b.ten.off, b.ne.2.1⟩
    · exact ⟨b.org.lt, b.low.2.1, b.org.off, b.ne.2.2⟩
  have hgf : ¬ s.foot g ∧ g ≠ tb ∧ g ≠ ob ∧ g ≠ db := by
    rcases h.at_ with e | e
    · exact b.far j g e
    · refine ⟨fun hk => ?_, ?_, ?_, ?_⟩
      · have := b.way.at_.lt hk; omega
      · have := b.ten.lt; omega
      · have := b.org.lt; omega
      · have := b.dice.lt; omega
  have hgl : w0.heap.size ≤ g := by
    rcases h.at_ with e | e
    · rcases (b.own j).2 with ⟨e1, _⟩ | ⟨g', cap', cur, e1, hb, _⟩
      · rw [e1] at e; cases e
      · rw [e1] at e; cases e; exact hb
    · rw [e]; exact b.way.below.size
  have hoff : ∀ k, (cs j).ownBlock = some k → ¬ s.foot k ∧ k ≠ tb ∧ k ≠ ob ∧ k ≠ db := fun k e => b.far j k e
  have holow : ∀ k, (cs j).ownBlock = some k → w0.heap.size ≤ k := fun k e => by
    rcases (b.own j).2 with ⟨e1, _⟩ | ⟨g', cap', cur, e1, hb, _⟩
    · rw [e1] at e; cases e
    · rw [e1] at e; cases e; exact hb
  have ho1 : Only (fun k => (cs j).ownBlock = some k) W W1 := Only.grown h.grow (fun k e _ => e)
  have way1 : Way w0 s W1 := b.way.only ho1 (fun k hk e => (hoff k e).1 hk) holow
  have dice1 : Dice W1 db w0.heap.size := b.dice.only ho1 (fun e => (hoff db e).2.2.2 rfl) holow
  have ten1 := b.ten.only ho1 (fun e => (hoff tb e).2.1 rfl)
  have org1 := b.org.only ho1 (fun e => (hoff ob e).2.2.1 rfl)
  have hset : ∀ (k : Nat), k ≠ B → (W1.setCell ⟨B, i, none⟩ (.slice (some ⟨g, 0, none⟩) ((ms j).length + 1) cap)).heap[k]? = W1.heap[k]? := fun k hk => by
    have hs := grown_set W1 B i (.slice (some ⟨g, 0, none⟩) ((ms j).length + 1) cap)
    rcases Nat.lt_or_ge k W1.heap.size with hl | hl
    · exact hs.block k hl (by simpa using hk)
    · rw [Array.getElem?_eq_none hl, Array.getElem?_eq_none (by simpa [World.setCell] using hl)]
  have plan1 : Held s W1 pb pcs := b.plan.only ho1 (fun e => b.pfar j e)
  have hpB : pb ≠ B := by
    rcases hB with ⟨rfl, _⟩ | ⟨rfl, _⟩
    · exact b.pne.1
    · exact b.pne.2.1
  refine ⟨way1.set B i _ hBl.2.2.1 hBl.2.1, dice1.set hBl.2.1 (fun e => hBl.2.2.2 e.symm) _, b.doff, ?_, ?_, b.ne, b.low, fun q => ?_, fun x y k hxy hx hy => ?_, fun q k hq => ?_, plan1.only (S := fun k => k = B) (Only.grown (grown_set W1 B i _) (fun k e _ => by cases e; rfl)) hpB, b.pne, fun q => ?_⟩
  · rcases hB with ⟨rfl, rfl, hj⟩ | ⟨rfl, rfl, hi⟩
    · have := ten1.set i (.slice (some ⟨g, 0, none⟩) ((ms i).length + 1) cap)
      rwa [ten_set cs i hj] at this
    · rw [ten_keep]; exact ten1.far i _ (fun e => b.ne.1 e.symm)
  · rcases hB with ⟨rfl, rfl, hj⟩ | ⟨rfl, rfl, hi⟩
    · rw [org_keep _ _ hj]; exact org1.far i _ b.ne.1
    · have := org1.set i (.slice (some ⟨g, 0, none⟩) ((ms (8 + i)).length + 1) cap)
      rwa [org_set cs i hi] at this
  · by_cases e : q = j
    · subst e
      rw [setAt_at, setAt_at]
      refine MoOwn.of_block h.own fun k hk => hset k ?_
      simp only [Value.ownBlock] at hk
      cases hk
      rcases hB with ⟨rfl, _⟩ | ⟨rfl, _⟩
      · exact hgf.2.1
      · exact hgf.2.2.1
    · rw [setAt_ne _ _ e, setAt_ne _ _ e]
      refine (b.own q).of_block fun k hk => (hset k ?_).trans (h.block (b.lt hk) (b.apart q j k e hk))
      rcases hB with ⟨rfl, _⟩ | ⟨rfl, _⟩
      · exact (b.far q k hk).2.1
      · exact (b.far q k hk).2.2.1
  · by_cases ex : x = j
    · subst ex
      rw [setAt_at] at hx
      rw [setAt_ne _ _ (fun e => hxy e.symm)] at hy
      simp only [Value.ownBlock] at hx
      cases hx
      rcases h.at_ with e | e
      · exact b.apart x y g hxy e hy
      · have := b.lt hy; omega
    · rw [setAt_ne _ _ ex] at hx
      by_cases ey : y = j
      · subst ey
        rw [setAt_at] at hy
        simp only [Value.ownBlock] at hy
        cases hy
        rcases h.at_ with e | e
        · exact b.apart x y g hxy hx e
        · have := b.lt hx; omega
      · rw [setAt_ne _ _ ey] at hy
        exact b.apart x y k hxy hx hy
  · by_cases e : q = j
    · subst e
      rw [setAt_at] at hq
      simp only [Value.ownBlock] at hq
      cases hq
      exact hgf
    · rw [setAt_ne _ _ e] at hq
      exact b.far q k hq
  · by_cases e : q = j
    · subst e
      rw [setAt_at]
      intro e2
      simp only [Value.ownBlock] at e2
      cases e2
      rcases h.at_ with e3 | e3
      · exact b.pfar q e3
      · have := b.plan.lt; omega
    · rw [setAt_ne _ _ e]; exact b.pfar q

end Go.Proofs.YthmhfilkgggagaaGreatDoor

namespace Go.Proofs.YthmhfilkgggagaaGreatDoor
open Go.RowKit Go.Maps Go.Sort

/-- A region of a body by its number. -/
noncomputable def codeAt (k : Nat) : Code → Option Code
  | .region i ops d => bif Nat.beq i k then some (.region i ops d) else none
  | .seq a b => match codeAt k a with
    | some c => some c
    | none => codeAt k b
  | .cond _ a b => match codeAt k a with
    | some c => some c
    | none => codeAt k b
  | .block _ b => codeAt k b
  | .loop b => codeAt k b
  | .scope b => codeAt k b
  | _ => none

noncomputable def bdReg (k : Nat) : Code := (codeAt k (Tryz.f8.body.getD .skip)).getD .skip

theorem info_mo : (Tryz.prog.info? 68).map (fun i => (i.zero, i.size, i.bytes)) = some (some (.agg #[.int .i64 0, .int .i64 0]), 2, 16) := by kernel_rfl

/-- The bag, and the moment beside it that is to be appended. -/
structure BagM (w0 : World) (s : St) (W : World) (db tb ob mb pb : Nat) (pcs : List Value) (cs : Nat → Value) (ms : Nat → List Mo) (m : Mo) : Prop where
  bag : Bag w0 s W db tb ob pb pcs cs ms
  mo : Blk s W mb 68 #[.int .i64 m.1, .int .i64 m.2]
  far : ∀ j, (cs j).ownBlock ≠ some mb
  ne : mb ≠ tb ∧ mb ≠ ob

theorem BagM.below {w0 : World} {s : St} {W W' : World} {db tb ob mb pb : Nat} {pcs : List Value} {cs : Nat → Value} {ms : Nat → List Mo} {m : Mo} (h : BagM w0 s W db tb ob mb pb pcs cs ms m) (hb : Below W.heap.size W W') : BagM w0 s W' db tb ob mb pb pcs cs ms m :=
  ⟨h.bag.below hb, h.mo.only (Only.below (S := fun _ => False) hb) (fun h => h), h.far, h.ne⟩

/-- Behind the append, ahead of the store. -/
theorem BagM.grew {w0 : World} {s : St} {W W1 : World} {db tb ob mb pb : Nat} {pcs : List Value} {cs : Nat → Value} {ms : Nat → List Mo} {m : Mo} (h : BagM w0 s W db tb ob mb pb pcs cs ms m) {j g cap : Nat}
    (own : W1.ownsRow w0.heap.size 68 2 (.slice (some ⟨g, 0, none⟩) ((ms j).length + 1) cap) ((ms j).length + 1) (moAll (ms j) ++ moC m))
    (grow : W.grownBy W1 (cs j).ownBlock) (at_ : (cs j).ownBlock = some g ∨ g = W.heap.size) (lt : g < W1.heap.size) :
    Grew w0 s W W1 db tb ob pb pcs cs ms j g cap m ∧ W1.heap[tb]? = W.heap[tb]? ∧ W1.heap[ob]? = W.heap[ob]? ∧ W1.heap[mb]? = W.heap[mb]? :=
  ⟨⟨h.bag, by unfold MoOwn; rw [moAll_snoc, List.length_append]; exact own, grow, at_, lt⟩,
    grow.block tb h.bag.ten.lt (fun e => (h.bag.far j tb e.symm).2.1 rfl), grow.block ob h.bag.org.lt (fun e => (h.bag.far j ob e.symm).2.2.1 rfl), grow.block mb h.mo.lt (fun e => h.far j e.symm)⟩

theorem BagM.stored {w0 : World} {s : St} {W W1 : World} {db tb ob mb pb : Nat} {pcs : List Value} {cs : Nat → Value} {ms : Nat → List Mo} {m : Mo} (h : BagM w0 s W db tb ob mb pb pcs cs ms m) {j g cap : Nat} (hg : Grew w0 s W W1 db tb ob pb pcs cs ms j g cap m) (B i : Nat) (hB : B = tb ∧ i = j ∧ j < 8 ∨ B = ob ∧ j = 8 + i ∧ i < 4) :
    BagM w0 s (W1.setCell ⟨B, i, none⟩ (.slice (some ⟨g, 0, none⟩) ((ms j).length + 1) cap)) db tb ob mb pb pcs (setAt cs j (.slice (some ⟨g, 0, none⟩) ((ms j).length + 1) cap)) (setAt ms j (ms j ++ [m])) m := by
  have hne : B ≠ mb := by
    rcases hB with ⟨rfl, _⟩ | ⟨rfl, _⟩
    · exact fun e => h.ne.1 e.symm
    · exact fun e => h.ne.2 e.symm
  refine ⟨hg.store B i hB, ?_, fun q => ?_, h.ne⟩
  · have h1 : Blk s W1 mb 68 #[.int .i64 m.1, .int .i64 m.2] := ⟨(hg.grow.block mb h.mo.lt (fun e => h.far j e.symm)).trans h.mo.at_, h.mo.off⟩
    exact h1.far i _ hne
  · by_cases e : q = j
    · subst e
      rw [setAt_at]
      intro e2
      simp only [Value.ownBlock] at e2
      cases e2
      rcases hg.at_ with e3 | e3
      · exact h.far q e3
      · have := h.mo.lt; omega
    · rw [setAt_ne _ _ e]; exact h.far q

set_option maxRecDepth 100000 in
set_option maxHeartbeats 4000000 in
theorem bd_reg22 (u0 u1 u2 u3 u4 u5 u7 u8 u12 u13 u14 u15 u16 u17 u18 u20 u21 u22 u23 u24 u25 u26 u27 u28 u29 u30 u31 u32 u33 u34 u35 u36 u37 u38 u39 u40 u41 u42 u43 u44 u45 u46 u47 u48 u49 u50 u51 u52 u53 u54 u55 u56 u57 u58 u59 u60 u61 u62 u63 u64 u65 u66 u67 u68 u69 u70 u71 u72 u73 u74 u75 u76 u77 u78 u79 u80 u81 u82 u83 u84 u85 u86 u87 u88 u89 u90 u91 u92 u93 u94 u95 u96 u97 u98 u99 u100 u101 u102 u103 u104 u105 u106 u107 u108 u109 u110 u111 u112 u113 u114 u115 u116 u117 u118 u119 u120 u121 u122 u123 u124 u125 u126 u127 u128 u129 u130 u131 u132 u133 u134 u135 u136 u137 u138 u139 u140 u141 u142 u143 u144 u145 u146 u147 u148 u149 u150 u151 u152 u153 u154 u155 u156 u157 u158 u159 u160 u161 u162 u163 u164 u165 u166 u167 u168 u169 u170 u171 u172 u173 u174 u175 u176 u177 u178 u179 u180 u181 u182 u183 u184 u185 u186 u187 u188 u189 u190 u191 u192 u193 u194 u195 u196 u197 u198 u199 u200 u201 u202 u203 u204 u205 u206 u207 u208 u209 u210 : Value) (w0 : World) (s : St) (W : World) (db tb ob mb pb : Nat) (pcs : List Value) (cs : Nat → Value) (ms : Nat → List Mo) (T Q c o t : Nat) (hc : c < 2) (ho : o < 2) (ht : t < 2) (hB : BagM w0 s W db tb ob mb pb pcs cs ms (T, Q)) (hn : (ms (o * 4 + t * 2 + c)).length ≤ 60) (R : Exit → Act → World → Prop)
    (hR : ∀ (v100 v101 v102 v103 v104 v105 v106 v107 v108 v109 v110 v111 v112 v113 v114 v115 : Value) (W' : World) (v : Value), BagM w0 s W' db tb ob mb pb pcs (setAt cs (o * 4 + t * 2 + c) v) (setAt ms (o * 4 + t * 2 + c) (ms (o * 4 + t * 2 + c) ++ [(T, Q)])) (T, Q) → R .normal ⟨#[u0, u1, u2, u3, u4, u5, .pointer (some ⟨tb, 0, none⟩), u7, u8, .int .i64 c, .int .i64 o, .int .i64 t, u12, u13, u14, u15, u16, u17, u18, .pointer (some ⟨mb, 0, none⟩), u20, u21, u22, u23, u24, u25, u26, u27, u28, u29, u30, u31, u32, u33, u34, u35, u36, u37, u38, u39, u40, u41, u42, u43, u44, u45, u46, u47, u48, u49, u50, u51, u52, u53, u54, u55, u56, u57, u58, u59, u60, u61, u62, u63, u64, u65, u66, u67, u68, u69, u70, u71, u72, u73, u74, u75, u76, u77, u78, u79, u80, u81, u82, u83, u84, u85, u86, u87, u88, u89, u90, u91, u92, u93, u94, u95, u96, u97, u98, u99, v100, v101, v102, v103, v104, v105, v106, v107, v108, v109, v110, v111, v112, v113, v114, v115, u116, u117, u118, u119, u120, u121, u122, u123, u124, u125, u126, u127, u128, u129, u130, u131, u132, u133, u134, u135, u136, u137, u138, u139, u140, u141, u142, u143, u144, u145, u146, u147, u148, u149, u150, u151, u152, u153, u154, u155, u156, u157, u158, u159, u160, u161, u162, u163, u164, u165, u166, u167, u168, u169, u170, u171, u172, u173, u174, u175, u176, u177, u178, u179, u180, u181, u182, u183, u184, u185, u186, u187, u188, u189, u190, u191, u192, u193, u194, u195, u196, u197, u198, u199, u200, u201, u202, u203, u204, u205, u206, u207, u208, u209, u210], []⟩ W') :
    Code.wp Tryz.prog (bdReg 22) R ⟨#[u0, u1, u2, u3, u4, u5, .pointer (some ⟨tb, 0, none⟩), u7, u8, .int .i64 c, .int .i64 o, .int .i64 t, u12, u13, u14, u15, u16, u17, u18, .pointer (some ⟨mb, 0, none⟩), u20, u21, u22, u23, u24, u25, u26, u27, u28, u29, u30, u31, u32, u33, u34, u35, u36, u37, u38, u39, u40, u41, u42, u43, u44, u45, u46, u47, u48, u49, u50, u51, u52, u53, u54, u55, u56, u57, u58, u59, u60, u61, u62, u63, u64, u65, u66, u67, u68, u69, u70, u71, u72, u73, u74, u75, u76, u77, u78, u79, u80, u81, u82, u83, u84, u85, u86, u87, u88, u89, u90, u91, u92, u93, u94, u95, u96, u97, u98, u99, u100, u101, u102, u103, u104, u105, u106, u107, u108, u109, u110, u111, u112, u113, u114, u115, u116, u117, u118, u119, u120, u121, u122, u123, u124, u125, u126, u127, u128, u129, u130, u131, u132, u133, u134, u135, u136, u137, u138, u139, u140, u141, u142, u143, u144, u145, u146, u147, u148, u149, u150, u151, u152, u153, u154, u155, u156, u157, u158, u159, u160, u161, u162, u163, u164, u165, u166, u167, u168, u169, u170, u171, u172, u173, u174, u175, u176, u177, u178, u179, u180, u181, u182, u183, u184, u185, u186, u187, u188, u189, u190, u191, u192, u193, u194, u195, u196, u197, u198, u199, u200, u201, u202, u203, u204, u205, u206, u207, u208, u209, u210], []⟩ W := by
  conv => arg 2; whnf
  obtain ⟨i0, hi0, hz0, hz1, hz2⟩ := info_parts info_mo
  have ho1 : (o : Int) < 2 := by omega
  have hc1 : (c : Int) < 2 := by omega
  have ht1 : (t : Int) < 2 := by omega
  have ho0 : (0 : Int) ≤ (o : Int) := by omega
  have hc0 : (0 : Int) ≤ (c : Int) := by omega
  have ht0 : (0 : Int) ≤ (t : Int) := by omega
  have hj : o * 4 + t * 2 + c < 8 := by omega
  have c0 := hB.bag.ten.cell (o * 4 + t * 2 + c) (cs (o * 4 + t * 2 + c)) (ten_at _ _ hj)
  have cf := hB.bag.ten.live (o * 4 + t * 2 + c)
  have m0 := hB.mo.cell 0 _ rfl
  have m1 := hB.mo.cell 1 _ rfl
  have c0n := (hB.below (Below.alloc1 W (.cells #[.int .i64 T, .int .i64 Q] 68))).bag.ten.cell (o * 4 + t * 2 + c) (cs (o * 4 + t * 2 + c)) (ten_at _ _ hj)
  have hBd := hB.below (Below.refl W.heap.size W).drew
  have hBn := hBd.below (Below.alloc1 W.drew (.cells #[.int .i64 T, .int .i64 Q] 68))
  have HB := hide hB; have HBN := hide hBn
  obtain ⟨vj, hvj⟩ : ∃ v, v = cs (o * 4 + t * 2 + c) := ⟨_, rfl⟩
  obtain ⟨L, hL⟩ : ∃ L, L = (ms (o * 4 + t * 2 + c)).length := ⟨_, rfl⟩
  obtain ⟨xs, hxs⟩ : ∃ x, x = moAll (ms (o * 4 + t * 2 + c)) := ⟨_, rfl⟩
  have hown := hBn.bag.own (o * 4 + t * 2 + c)
  unfold MoOwn at hown
  rw [← hvj, ← hL, ← hxs] at hown
  rw [← hvj] at c0 c0n
  rw [← hL] at hn
  have HO := hide hown; have HVJ := hide hvj; have HLL := hide hL; have HXS := hide hxs
  have hlow := hide hBn.bag.way.below.size
  clear hB hBd hBn hown hvj hL hxs
  refine wp_region_noPanic ?_
  go_region_law (first
      | (refine step_append_lies _ (by rfl) _ _ _ (by rfl) w0.heap.size 68 i0 (.agg #[.int .i64 0, .int .i64 0]) 2 16 Tryz.underlying53 hi0 hz0 hz1 hz2 rfl (by omega) vj L xs (by rfl) (unhide HO) ⟨W.heap.size, 0, none⟩ 1 1 [.int .i64 T, .int .i64 Q] (by rfl) (by rfl) (cell_two_new _ _ _ _) (by intro u hu; simp at hu; rcases hu with rfl | rfl <;> rfl) (by omega) (by unfold maxLen; omega) (by omega) (unhide hlow) (W.heap.size + 1) (by simp) ?_; intro gg cap w4 hown4 hgrow4 hat4 hlt4; have hG := (unhide HBN).grew (j := o * 4 + t * 2 + c) (g := gg) (cap := cap) (by rw [← unhide HLL, ← unhide HXS]; exact hown4) (by rw [← unhide HVJ]; exact hgrow4) (by rw [← unhide HVJ]; simpa using hat4) hlt4; have x0 : w4.cell? ⟨tb, o * 4 + t * 2 + c, none⟩ = some vj := (World.cell?_of_block hG.2.1).trans ((unhide HBN).bag.ten.cell (o * 4 + t * 2 + c) vj (by rw [unhide HVJ]; exact ten_at _ _ hj)); have xf : w4.frozen? ⟨tb, o * 4 + t * 2 + c, none⟩ = false := (by simp [World.frozen?, hG.2.1, (unhide HBN).bag.ten.at_]); have xm0 : w4.cell? ⟨mb, 0, none⟩ = some (.int .i64 T) := (World.cell?_of_block hG.2.2.2).trans ((unhide HBN).mo.cell 0 _ rfl); have xm1 : w4.cell? ⟨mb, 1, none⟩ = some (.int .i64 Q) := (World.cell?_of_block hG.2.2.2).trans ((unhide HBN).mo.cell 1 _ rfl); have HG := hide hG.1; clear hG hown4 hgrow4 hat4 hlt4))
  all_goals
    refine NoPanic.normal ?_
    have hS := (unhide HBN).stored (unhide HG) tb (o * 4 + t * 2 + c) (.inl ⟨rfl, rfl, hj⟩)
    rw [← unhide HLL] at hS
    exact hR _ _ _ _ _ _ _ _ _ _ _ _ _ _ _ _  _ _ hS

set_option maxRecDepth 100000 in
set_option maxHeartbeats 4000000 in
theorem bd_reg23 (u0 u1 u2 u3 u4 u5 u6 u8 u11 u12 u13 u14 u15 u16 u17 u18 u20 u21 u22 u23 u24 u25 u26 u27 u28 u29 u30 u31 u32 u33 u34 u35 u36 u37 u38 u39 u40 u41 u42 u43 u44 u45 u46 u47 u48 u49 u50 u51 u52 u53 u54 u55 u56 u57 u58 u59 u60 u61 u62 u63 u64 u65 u66 u67 u68 u69 u70 u71 u72 u73 u74 u75 u76 u77 u78 u79 u80 u81 u82 u83 u84 u85 u86 u87 u88 u89 u90 u91 u92 u93 u94 u95 u96 u97 u98 u99 u100 u101 u102 u103 u104 u105 u106 u107 u108 u109 u110 u111 u112 u113 u114 u115 u116 u117 u118 u119 u120 u121 u122 u123 u124 u125 u126 u127 u128 u129 u130 u131 u132 u133 u134 u135 u136 u137 u138 u139 u140 u141 u142 u143 u144 u145 u146 u147 u148 u149 u150 u151 u152 u153 u154 u155 u156 u157 u158 u159 u160 u161 u162 u163 u164 u165 u166 u167 u168 u169 u170 u171 u172 u173 u174 u175 u176 u177 u178 u179 u180 u181 u182 u183 u184 u185 u186 u187 u188 u189 u190 u191 u192 u193 u194 u195 u196 u197 u198 u199 u200 u201 u202 u203 u204 u205 u206 u207 u208 u209 u210 : Value) (w0 : World) (s : St) (W : World) (db tb ob mb pb : Nat) (pcs : List Value) (cs : Nat → Value) (ms : Nat → List Mo) (T Q c o t : Nat) (hc : c < 2) (ho : o < 2) (ht : t < 2) (hB : BagM w0 s W db tb ob mb pb pcs cs ms (T, Q)) (hn : (ms (8 + (o * 2 + c))).length ≤ 60) (R : Exit → Act → World → Prop)
    (hR : ∀ (v116 v117 v118 v119 v120 v121 v122 v123 v124 v125 v126 v127 : Value) (W' : World) (v : Value), BagM w0 s W' db tb ob mb pb pcs (setAt cs (8 + (o * 2 + c)) v) (setAt ms (8 + (o * 2 + c)) (ms (8 + (o * 2 + c)) ++ [(T, Q)])) (T, Q) → R .normal ⟨#[u0, u1, u2, u3, u4, u5, u6, .pointer (some ⟨ob, 0, none⟩), u8, .int .i64 c, .int .i64 o, u11, u12, u13, u14, u15, u16, u17, u18, .pointer (some ⟨mb, 0, none⟩), u20, u21, u22, u23, u24, u25, u26, u27, u28, u29, u30, u31, u32, u33, u34, u35, u36, u37, u38, u39, u40, u41, u42, u43, u44, u45, u46, u47, u48, u49, u50, u51, u52, u53, u54, u55, u56, u57, u58, u59, u60, u61, u62, u63, u64, u65, u66, u67, u68, u69, u70, u71, u72, u73, u74, u75, u76, u77, u78, u79, u80, u81, u82, u83, u84, u85, u86, u87, u88, u89, u90, u91, u92, u93, u94, u95, u96, u97, u98, u99, u100, u101, u102, u103, u104, u105, u106, u107, u108, u109, u110, u111, u112, u113, u114, u115, v116, v117, v118, v119, v120, v121, v122, v123, v124, v125, v126, v127, u128, u129, u130, u131, u132, u133, u134, u135, u136, u137, u138, u139, u140, u141, u142, u143, u144, u145, u146, u147, u148, u149, u150, u151, u152, u153, u154, u155, u156, u157, u158, u159, u160, u161, u162, u163, u164, u165, u166, u167, u168, u169, u170, u171, u172, u173, u174, u175, u176, u177, u178, u179, u180, u181, u182, u183, u184, u185, u186, u187, u188, u189, u190, u191, u192, u193, u194, u195, u196, u197, u198, u199, u200, u201, u202, u203, u204, u205, u206, u207, u208, u209, u210], []⟩ W') :
    Code.wp Tryz.prog (bdReg 23) R ⟨#[u0, u1, u2, u3, u4, u5, u6, .pointer (some ⟨ob, 0, none⟩), u8, .int .i64 c, .int .i64 o, u11, u12, u13, u14, u15, u16, u17, u18, .pointer (some ⟨mb, 0, none⟩), u20, u21, u22, u23, u24, u25, u26, u27, u28, u29, u30, u31, u32, u33, u34, u35, u36, u37, u38, u39, u40, u41, u42, u43, u44, u45, u46, u47, u48, u49, u50, u51, u52, u53, u54, u55, u56, u57, u58, u59, u60, u61, u62, u63, u64, u65, u66, u67, u68, u69, u70, u71, u72, u73, u74, u75, u76, u77, u78, u79, u80, u81, u82, u83, u84, u85, u86, u87, u88, u89, u90, u91, u92, u93, u94, u95, u96, u97, u98, u99, u100, u101, u102, u103, u104, u105, u106, u107, u108, u109, u110, u111, u112, u113, u114, u115, u116, u117, u118, u119, u120, u121, u122, u123, u124, u125, u126, u127, u128, u129, u130, u131, u132, u133, u134, u135, u136, u137, u138, u139, u140, u141, u142, u143, u144, u145, u146, u147, u148, u149, u150, u151, u152, u153, u154, u155, u156, u157, u158, u159, u160, u161, u162, u163, u164, u165, u166, u167, u168, u169, u170, u171, u172, u173, u174, u175, u176, u177, u178, u179, u180, u181, u182, u183, u184, u185, u186, u187, u188, u189, u190, u191, u192, u193, u194, u195, u196, u197, u198, u199, u200, u201, u202, u203, u204, u205, u206, u207, u208, u209, u210], []⟩ W := by
  conv => arg 2; whnf
  obtain ⟨i0, hi0, hz0, hz1, hz2⟩ := info_parts info_mo
  have ho1 : (o : Int) < 2 := by omega
  have hc1 : (c : Int) < 2 := by omega
  have ht1 : (t : Int) < 2 := by omega
  have ho0 : (0 : Int) ≤ (o : Int) := by omega
  have hc0 : (0 : Int) ≤ (c : Int) := by omega
  have ht0 : (0 : Int) ≤ (t : Int) := by omega
  have hj : o * 2 + c < 4 := by omega
  have c0 := hB.bag.org.cell (o * 2 + c) (cs (8 + (o * 2 + c))) (org_at _ _ hj)
  have cf := hB.bag.org.live (o * 2 + c)
  have m0 := hB.mo.cell 0 _ rfl
  have m1 := hB.mo.cell 1 _ rfl
  have c0n := (hB.below (Below.alloc1 W (.cells #[.int .i64 T, .int .i64 Q] 68))).bag.org.cell (o * 2 + c) (cs (8 + (o * 2 + c))) (org_at _ _ hj)
  have hBd := hB.below (Below.refl W.heap.size W).drew
  have hBn := hBd.below (Below.alloc1 W.drew (.cells #[.int .i64 T, .int .i64 Q] 68))
  have HB := hide hB; have HBN := hide hBn
  obtain ⟨vj, hvj⟩ : ∃ v, v = cs (8 + (o * 2 + c)) := ⟨_, rfl⟩
  obtain ⟨L, hL⟩ : ∃ L, L = (ms (8 + (o * 2 + c))).length := ⟨_, rfl⟩
  obtain ⟨xs, hxs⟩ : ∃ x, x = moAll (ms (8 + (o * 2 + c))) := ⟨_, rfl⟩
  have hown := hBn.bag.own (8 + (o * 2 + c))
  unfold MoOwn at hown
  rw [← hvj, ← hL, ← hxs] at hown
  rw [← hvj] at c0 c0n
  rw [← hL] at hn
  have HO := hide hown; have HVJ := hide hvj; have HLL := hide hL; have HXS := hide hxs
  have hlow := hide hBn.bag.way.below.size
  clear hB hBd hBn hown hvj hL hxs
  refine wp_region_noPanic ?_
  go_region_law (first
      | (refine step_append_lies _ (by rfl) _ _ _ (by rfl) w0.heap.size 68 i0 (.agg #[.int .i64 0, .int .i64 0]) 2 16 Tryz.underlying53 hi0 hz0 hz1 hz2 rfl (by omega) vj L xs (by rfl) (unhide HO) ⟨W.heap.size, 0, none⟩ 1 1 [.int .i64 T, .int .i64 Q] (by rfl) (by rfl) (cell_two_new _ _ _ _) (by intro u hu; simp at hu; rcases hu with rfl | rfl <;> rfl) (by omega) (by unfold maxLen; omega) (by omega) (unhide hlow) (W.heap.size + 1) (by simp) ?_; intro gg cap w4 hown4 hgrow4 hat4 hlt4; have hG := (unhide HBN).grew (j := 8 + (o * 2 + c)) (g := gg) (cap := cap) (by rw [← unhide HLL, ← unhide HXS]; exact hown4) (by rw [← unhide HVJ]; exact hgrow4) (by rw [← unhide HVJ]; simpa using hat4) hlt4; have x0 : w4.cell? ⟨ob, o * 2 + c, none⟩ = some vj := (World.cell?_of_block hG.2.2.1).trans ((unhide HBN).bag.org.cell (o * 2 + c) vj (by rw [unhide HVJ]; exact org_at _ _ hj)); have xf : w4.frozen? ⟨ob, o * 2 + c, none⟩ = false := (by simp [World.frozen?, hG.2.2.1, (unhide HBN).bag.org.at_]); have xm0 : w4.cell? ⟨mb, 0, none⟩ = some (.int .i64 T) := (World.cell?_of_block hG.2.2.2).trans ((unhide HBN).mo.cell 0 _ rfl); have xm1 : w4.cell? ⟨mb, 1, none⟩ = some (.int .i64 Q) := (World.cell?_of_block hG.2.2.2).trans ((unhide HBN).mo.cell 1 _ rfl); have HG := hide hG.1; clear hG hown4 hgrow4 hat4 hlt4))
  all_goals
    refine NoPanic.normal ?_
    have hS := (unhide HBN).stored (unhide HG) ob (o * 2 + c) (.inr ⟨rfl, rfl, hj⟩)
    rw [← unhide HLL] at hS
    exact hR _ _ _ _ _ _ _ _ _ _ _ _  _ _ hS

end Go.Proofs.YthmhfilkgggagaaGreatDoor

namespace Go.Proofs.YthmhfilkgggagaaGreatDoor
open Go.RowKit Go.Maps Go.Sort

def litV (r : Nat) : Nat := match r with | 0 => 1 | 1 => 1000 | 2 => 142857142 | 3 => 1000000000 | _ => 3000000000

theorem lit_at (r : Nat) (hr : r < 5) (t : TypeId) (w : World) : (w.alloc (.cells #[.int .i64 1, .int .i64 1000, .int .i64 142857142, .int .i64 1000000000, .int .i64 3000000000] t)).cell? ⟨w.heap.size, r, none⟩ = some (.int .i64 (litV r : Nat)) := by
  have h := (MapKept.heap_alloc w (.cells #[.int .i64 1, .int .i64 1000, .int .i64 142857142, .int .i64 1000000000, .int .i64 3000000000] t)).1
  simp only [World.cell?, h]
  match r, hr with
  | 0, _ | 1, _ | 2, _ | 3, _ | 4, _ => rfl

theorem st_tick_at (s : St) (x : Int) (d : Nat) (hx : x = (d : Int)) (w : World) (h : s.At w) (hd : s.tm + d ≤ 1000000000000) : Calls Tryz.prog 31 #[.pointer (some ⟨s.sb, 0, none⟩), .int .i64 x] w fun e w' => e = .returned (.int .i64 0) ∧
    ∃ t, Went s t w w' ∧ t.l = s.l ∧ t.tm = s.tm + d ∧ t.lv = fallV s.l d s.lv := by
  rw [hx]; exact st_tick_ok s d w h hd

theorem lit_le (r : Nat) : litV r ≤ 3000000000 := by
  unfold litV; split <;> omega

set_option maxRecDepth 100000 in
set_option maxHeartbeats 4000000 in
theorem bd_reg31 (u0 u1 u2 u4 u6 u7 u8 u9 u10 u11 u12 u13 u14 u15 u16 u17 u18 u19 u20 u21 u22 u23 u24 u25 u26 u27 u28 u29 u30 u31 u32 u33 u34 u35 u36 u37 u38 u39 u40 u41 u42 u43 u44 u45 u46 u47 u48 u49 u50 u51 u52 u53 u54 u55 u56 u57 u58 u59 u60 u61 u62 u63 u64 u65 u66 u67 u68 u69 u70 u71 u72 u73 u74 u75 u76 u77 u78 u79 u80 u81 u82 u83 u84 u85 u86 u87 u88 u89 u90 u91 u92 u93 u94 u95 u96 u97 u98 u99 u100 u101 u102 u103 u104 u105 u106 u107 u108 u109 u110 u111 u112 u113 u114 u115 u116 u117 u118 u119 u120 u121 u122 u123 u124 u125 u126 u127 u128 u129 u130 u131 u132 u133 u134 u135 u136 u137 u138 u139 u140 u141 u142 u143 u144 u145 u146 u147 u148 u149 u150 u151 u152 u153 u154 u155 u156 u157 u158 u159 u160 u161 u162 u163 u164 u165 u166 u167 u168 u169 u170 u171 u172 u173 u174 u175 u176 u177 u178 u179 u180 u181 u182 u183 u184 u185 u186 u187 u188 u189 u190 u191 u192 u193 u194 u195 u196 u197 u198 u199 u200 u201 u202 u203 u204 u205 u206 u207 u208 u209 u210 : Value) (w0 : World) (s : St) (sb : Nat) (hsb : s.sb = sb) (W : World) (db tb ob pb : Nat) (pcs : List Value) (cs : Nat → Value) (ms : Nat → List Mo) (hB : Bag w0 s W db tb ob pb pcs cs ms) (htm : s.tm ≤ 900000000000) (R : Exit → Act → World → Prop)
    (hR : ∀ (v152 v153 v154 v155 v156 v157 v158 v159 v160 v161 : Value) (W' : World) (s' : St) (d : Nat), Bag w0 s' W' db tb ob pb pcs cs ms → s'.sb = s.sb → s'.l = s.l → s'.tm = s.tm + d → s'.lv = fallV s.l d s.lv → d ≤ 3000001000 → R .normal ⟨#[u0, u1, u2, .pointer (some ⟨db, 0, none⟩), u4, .pointer (some ⟨sb, 0, none⟩), u6, u7, u8, u9, u10, u11, u12, u13, u14, u15, u16, u17, u18, u19, .int .i64 0, u21, u22, u23, u24, u25, u26, u27, u28, u29, u30, u31, u32, u33, u34, u35, u36, u37, u38, u39, u40, u41, u42, u43, u44, u45, u46, u47, u48, u49, u50, u51, u52, u53, u54, u55, u56, u57, u58, u59, u60, u61, u62, u63, u64, u65, u66, u67, u68, u69, u70, u71, u72, u73, u74, u75, u76, u77, u78, u79, u80, u81, u82, u83, u84, u85, u86, u87, u88, u89, u90, u91, u92, u93, u94, u95, u96, u97, u98, u99, u100, u101, u102, u103, u104, u105, u106, u107, u108, u109, u110, u111, u112, u113, u114, u115, u116, u117, u118, u119, u120, u121, u122, u123, u124, u125, u126, u127, u128, u129, u130, u131, u132, u133, u134, u135, u136, u137, u138, u139, u140, u141, u142, u143, u144, u145, u146, u147, u148, u149, u150, u151, v152, v153, v154, v155, v156, v157, v158, v159, v160, v161, u162, u163, u164, u165, u166, u167, u168, u169, u170, u171, u172, u173, u174, u175, u176, u177, u178, u179, u180, u181, u182, u183, u184, u185, u186, u187, u188, u189, u190, u191, u192, u193, u194, u195, u196, u197, u198, u199, u200, u201, u202, u203, u204, u205, u206, u207, u208, u209, u210], []⟩ W') :
    Code.wp Tryz.prog (bdReg 31) R ⟨#[u0, u1, u2, .pointer (some ⟨db, 0, none⟩), u4, .pointer (some ⟨sb, 0, none⟩), u6, u7, u8, u9, u10, u11, u12, u13, u14, u15, u16, u17, u18, u19, u20, u21, u22, u23, u24, u25, u26, u27, u28, u29, u30, u31, u32, u33, u34, u35, u36, u37, u38, u39, u40, u41, u42, u43, u44, u45, u46, u47, u48, u49, u50, u51, u52, u53, u54, u55, u56, u57, u58, u59, u60, u61, u62, u63, u64, u65, u66, u67, u68, u69, u70, u71, u72, u73, u74, u75, u76, u77, u78, u79, u80, u81, u82, u83, u84, u85, u86, u87, u88, u89, u90, u91, u92, u93, u94, u95, u96, u97, u98, u99, u100, u101, u102, u103, u104, u105, u106, u107, u108, u109, u110, u111, u112, u113, u114, u115, u116, u117, u118, u119, u120, u121, u122, u123, u124, u125, u126, u127, u128, u129, u130, u131, u132, u133, u134, u135, u136, u137, u138, u139, u140, u141, u142, u143, u144, u145, u146, u147, u148, u149, u150, u151, u152, u153, u154, u155, u156, u157, u158, u159, u160, u161, u162, u163, u164, u165, u166, u167, u168, u169, u170, u171, u172, u173, u174, u175, u176, u177, u178, u179, u180, u181, u182, u183, u184, u185, u186, u187, u188, u189, u190, u191, u192, u193, u194, u195, u196, u197, u198, u199, u200, u201, u202, u203, u204, u205, u206, u207, u208, u209, u210], []⟩ W := by
  conv => arg 2; whnf
  subst hsb
  have hB0 := hB.drew
  have HB0 := hide hB0
  have HR := hide hR
  clear hB hB0 hR
  refine wp_region_noPanic ?_
  go_region_with (first
    | (go_at_call_of 27 (Value.int IntKind.i64 5); refine (next_any 5 db w0.heap.size _ (by first | exact (unhide HB0).dice | exact ((unhide HB0).below (Below.alloc1 _ _)).dice) (by omega) (by omega)).mono ?_; rintro e w1 ⟨hd1, hg1, r, hr, rfl⟩; obtain ⟨X, hX⟩ : ∃ X, X = litV r := ⟨_, rfl⟩; have hXb : X ≤ 3000000000 := (by rw [hX]; exact lit_le r); have HB1 : Hid (Bag w0 s w1 db tb ob pb pcs cs ms) := hide (by first | exact (unhide HB0).rolled hd1 hg1 | exact ((unhide HB0).below (Below.alloc1 _ _)).rolled hd1 hg1); (try have lx : w1.cell? ⟨W.heap.size, r, none⟩ = some (.int .i64 (X : Nat)) := (by rw [hX]; exact (World.cell?_of_block (hg1.block W.heap.size (by simp) (by have := (unhide HB0).dice.lt; simp at this ⊢; omega))).trans (lit_at r hr _ W.drew))); have la : ∀ w : World, (w.alloc (.cells #[.int .i64 1, .int .i64 1000, .int .i64 142857142, .int .i64 1000000000, .int .i64 3000000000] 3)).cell? ⟨w.heap.size, r, none⟩ = some (.int .i64 (X : Nat)) := (fun w => by rw [hX]; exact lit_at r hr _ w); have hr1 : (r : Int) < 5 := (by omega); have hr0 : (0 : Int) ≤ (r : Int) := (by omega); have HX := hide hX; have hs1 := hide hg1.size; clear hd1 hg1 hX)
    | (go_at_call_of 27 (Value.int IntKind.i64 1000); refine (next_any 1000 db w0.heap.size _ (by first | exact (unhide HB1).dice | exact ((unhide HB1).below (Below.alloc1 _ _)).dice) (by omega) (by omega)).mono ?_; rintro e w2 ⟨hd2, hg2, q, hq, rfl⟩; have HB2 : Hid (Bag w0 s w2 db tb ob pb pcs cs ms) := hide (by first | exact (unhide HB1).rolled hd2 hg2 | exact ((unhide HB1).below (Below.alloc1 _ _)).rolled hd2 hg2); (try have lx2 : w2.cell? ⟨W.heap.size, r, none⟩ = some (.int .i64 (X : Nat)) := ((World.cell?_of_block (hg2.block W.heap.size (by have := unhide hs1; simp at this; omega) (by have := (unhide HB0).dice.lt; simp at this ⊢; omega))).trans lx)); (try have lx3 : w2.cell? ⟨w1.heap.size, r, none⟩ = some (.int .i64 (X : Nat)) := ((World.cell?_of_block (hg2.block w1.heap.size (by simp) (by have := (unhide HB1).dice.lt; simp; omega))).trans (la w1))); obtain ⟨D, hD⟩ : ∃ D, D = X + q := ⟨_, rfl⟩; have eD : (X : Int) + (q : Int) = (D : Int) := (by omega); have hDb : D ≤ 3000001000 := (by omega); have EW : Hid (IntKind.i64.wrap ((X : Int) + (q : Int)) = (D : Int)) := hide (by rw [IntWalk.i64_in _ ⟨by omega, by omega⟩]; exact eD); clear hd2 hg2 hD eD)
    | (go_at_call 31; refine (st_tick_at s _ D (unhide EW) _ (by first | exact (unhide HB2).way.at_ | exact ((unhide HB2).below (Below.alloc1 _ _)).way.at_) (by omega)).mono ?_; rintro e w3 ⟨rfl, s', hw3, a1, a2, a3⟩; have HB3 : Hid (Bag w0 s' w3 db tb ob pb pcs cs ms) := hide (by first | exact (unhide HB2).went hw3 | exact ((unhide HB2).below (Below.alloc1 _ _)).went hw3); have HA := hide (And.intro hw3.sb (And.intro a1 (And.intro a2 a3))); clear hw3 a1 a2 a3))
  all_goals
    refine NoPanic.normal ?_
    exact unhide HR _ _ _ _ _ _ _ _ _ _ _ s' D (unhide HB3) (unhide HA).1 (unhide HA).2.1 (unhide HA).2.2.1 (unhide HA).2.2.2 hDb

end Go.Proofs.YthmhfilkgggagaaGreatDoor

namespace Go.Proofs.YthmhfilkgggagaaGreatDoor
open Go.RowKit Go.Maps Go.Sort

def keys12 : List Kb := [(0, orgW 0, []), (0, orgW 1, []), (1, orgW 0, []), (1, orgW 1, []), (0, orgW 0, tenW 0), (0, orgW 0, tenW 1), (0, orgW 1, tenW 0), (0, orgW 1, tenW 1), (1, orgW 0, tenW 0), (1, orgW 0, tenW 1), (1, orgW 1, tenW 0), (1, orgW 1, tenW 1)]

theorem keys_org (c o : Nat) (hc : c < 2) (ho : o < 2) : (c, orgW o, ([] : List UInt8)) ∈ keys12 := by
  match c, o, hc, ho with
  | 0, 0, _, _ | 0, 1, _, _ | 1, 0, _, _ | 1, 1, _, _ => simp [keys12]

theorem keys_ten (c o x : Nat) (hc : c < 2) (ho : o < 2) (hx : x < 2) : (c, orgW o, tenW x) ∈ keys12 := by
  match c, o, x, hc, ho, hx with
  | 0, 0, 0, _, _, _ | 0, 0, 1, _, _, _ | 0, 1, 0, _, _, _ | 0, 1, 1, _, _, _ | 1, 0, 0, _, _, _ | 1, 0, 1, _, _, _ | 1, 1, 0, _, _, _ | 1, 1, 1, _, _, _ => simp [keys12]

theorem apart_le : ∀ (l : Lv) (k : List Kb), (l.Pairwise fun a b => a.1 ≠ b.1) → (∀ x ∈ l, x.1 ∈ k) → l.length ≤ k.length
  | [], _, _, _ => Nat.zero_le _
  | x :: r, k, hp, hk => by
    have hx := hk x (List.mem_cons_self ..)
    have h1 := apart_le r (k.erase x.1) (List.pairwise_cons.1 hp).2 (fun y hy => (List.mem_erase_of_ne (fun e => (List.pairwise_cons.1 hp).1 y hy e.symm)).2 (hk y (List.mem_cons_of_mem _ hy)))
    rw [List.length_erase_of_mem hx] at h1
    have := List.length_pos_of_mem hx
    simp only [List.length_cons]
    omega

/-- What is decided where there is room. -/
theorem admit_cases (l : List (Sl.Subj × Sl.Lim)) (lv : Lv) (k : Kb) (Q : Nat) (hn : lv.length ≤ 12) (r1 : 0 < (limK l (k.1, k.2.1, [])).rate) (r2 : 0 < (limK l k).rate) :
    admitS l lv k Q = ((413, 0, 0), lv) ∨ (∃ M Y, 0 < M ∧ admitS l lv k Q = ((429, M, Y), lv)) ∨
      (levOf lv (k.1, k.2.1, []) + Q * 1000000000 ≤ (limK l (k.1, k.2.1, [])).burst * 1000000000 ∧ levOf lv k + Q * 1000000000 ≤ (limK l k).burst * 1000000000 ∧
        admitS l lv k Q = ((204, 0, 0), putV (putV lv (k.1, k.2.1, []) (levOf lv (k.1, k.2.1, []) + Q * 1000000000)) k (levOf lv k + Q * 1000000000))) := by
  by_cases h1 : (limK l (k.1, k.2.1, [])).burst < Q ∨ (limK l k).burst < Q
  · exact .inl (by unfold admitS; rw [if_pos h1])
  · have h2 : ¬ 64 < lv.length + emptyN lv [(k.1, k.2.1, []), k] := by rw [emptyN_two]; split <;> split <;> omega
    by_cases h3 : 0 < max (waitV (levOf lv (k.1, k.2.1, [])) (limK l (k.1, k.2.1, [])).rate (limK l (k.1, k.2.1, [])).burst Q) (waitV (levOf lv k) (limK l k).rate (limK l k).burst Q)
    · exact .inr (.inl ⟨_, _, h3, by unfold admitS; rw [if_neg h1, if_neg h2, if_pos h3]⟩)
    · refine .inr (.inr ⟨wait_zero r1 (by omega), wait_zero r2 (by omega), ?_⟩)
      unfold admitS
      rw [if_neg h1, if_neg h2, if_neg h3]

structure Bnd (p : Nat → Sl.Lim) (i : Nat) (t : St) (ms : Nat → List Mo) : Prop where
  tm : t.tm ≤ i * 3000001000
  ok : OkV t.lv
  l : t.l = entries p
  ten : ∀ c o x, c < 2 → o < 2 → x < 2 → Inv (levOf t.lv (c, orgW o, tenW x)) (limTen p c o x).rate (limTen p c o x).burst t.tm (ms (o * 4 + x * 2 + c))
  org : ∀ c o, c < 2 → o < 2 → Inv (levOf t.lv (c, orgW o, [])) (limOrg p c o).rate (limOrg p c o).burst t.tm (ms (8 + (o * 2 + c)))
  len : ∀ j, (ms j).length ≤ i
  cost : ∀ j, ∀ m ∈ ms j, m.2 ≤ 12
  keys : ∀ x ∈ t.lv, x.1 ∈ keys12

variable {p : Nat → Sl.Lim} {i : Nat} {t t' : St} {ms : Nat → List Mo}

theorem Bnd.few (h : Bnd p i t ms) : t.lv.length ≤ 12 := apart_le t.lv keys12 h.ok.apart h.keys

theorem Bnd.begin (p : Nat → Sl.Lim) (s : St) (hl : s.l = entries p) (ht : s.tm = 0) (hv : s.lv = []) (ok : OkV s.lv) : Bnd p 0 s (fun _ => []) :=
  ⟨by omega, ok, hl, fun _ _ _ _ _ _ => Inv.nil _ _ _ _, fun _ _ _ _ => Inv.nil _ _ _ _, fun _ => Nat.le_refl _, fun _ m hm => by simp at hm, fun x hx => by rw [hv] at hx; simp at hx⟩

/-- A round in which nothing is let through, and no time passes. -/
theorem Bnd.same (h : Bnd p i t ms) (ht : t'.tm = t.tm) (hl : t'.l = t.l) (hv : t'.lv = t.lv) : Bnd p i t' ms :=
  ⟨by rw [ht]; exact h.tm, by rw [hv]; exact h.ok, hl.trans h.l, by rw [hv, ht]; exact h.ten, by rw [hv, ht]; exact h.org, h.len, h.cost, by rw [hv]; exact h.keys⟩

theorem Bnd.next (h : Bnd p i t ms) : Bnd p (i + 1) t ms :=
  ⟨Nat.le_trans h.tm (Nat.mul_le_mul_right _ (Nat.le_succ i)), h.ok, h.l, h.ten, h.org, fun j => Nat.le_succ_of_le (h.len j), h.cost, h.keys⟩

/-- What comes of the moments by the end. -/
theorem Bnd.times (h : Bnd p i t ms) (hi : i ≤ 60) {j : Nat} (hj : j < 12) : ∀ m ∈ ms j, m.1 ≤ 1000000000000 := by
  have h1 : ∀ m ∈ ms j, m.1 ≤ t.tm := by
    match j, hj with
    | 0, _ => exact (h.ten 0 0 0 (by omega) (by omega) (by omega)).time
    | 1, _ => exact (h.ten 1 0 0 (by omega) (by omega) (by omega)).time
    | 2, _ => exact (h.ten 0 0 1 (by omega) (by omega) (by omega)).time
    | 3, _ => exact (h.ten 1 0 1 (by omega) (by omega) (by omega)).time
    | 4, _ => exact (h.ten 0 1 0 (by omega) (by omega) (by omega)).time
    | 5, _ => exact (h.ten 1 1 0 (by omega) (by omega) (by omega)).time
    | 6, _ => exact (h.ten 0 1 1 (by omega) (by omega) (by omega)).time
    | 7, _ => exact (h.ten 1 1 1 (by omega) (by omega) (by omega)).time
    | 8, _ => exact (h.org 0 0 (by omega) (by omega)).time
    | 9, _ => exact (h.org 1 0 (by omega) (by omega)).time
    | 10, _ => exact (h.org 0 1 (by omega) (by omega)).time
    | 11, _ => exact (h.org 1 1 (by omega) (by omega)).time
  intro m hm
  have := h1 m hm
  have := h.tm
  omega

/-- Time passes. -/
theorem Bnd.tick (h : Bnd p i t ms) (hp : OkP 2 p) (d : Nat) (hd : t.tm + d ≤ i * 3000001000) (hl : t'.l = t.l) (ht : t'.tm = t.tm + d) (hv : t'.lv = fallV t.l d t.lv) : Bnd p i t' ms := by
  refine ⟨by rw [ht]; exact hd, by rw [hv]; exact h.ok.fall _ _, hl.trans h.l, fun c o x hc ho hx => ?_, fun c o hc ho => ?_, h.len, h.cost, fun y hy => ?_⟩
  · have h1 := (h.ten c o x hc ho hx).tick d
    rw [hv, ht, levOf_fall h.ok, h.l, limK_ten (holds_self p) hp c o x hc ho hx]
    exact h1
  · have h1 := (h.org c o hc ho).tick d
    rw [hv, ht, levOf_fall h.ok, h.l, limK_org (holds_self p) hp c o hc ho]
    exact h1
  · rw [hv] at hy
    obtain ⟨z, hz, _, rfl⟩ := fallV_mem.1 hy
    exact h.keys z hz

/-- A cost is let through. -/
theorem Bnd.pass (h : Bnd p i t ms) (c o x Q : Nat) (hc : c < 2) (ho : o < 2) (hx : x < 2) (hQ : Q ≤ 12) (hl : t'.l = t.l) (ht : t'.tm = t.tm) (ok' : OkV t'.lv)
    (l1 : levOf t'.lv (c, orgW o, []) = levOf t.lv (c, orgW o, []) + Q * 1000000000) (l2 : levOf t'.lv (c, orgW o, tenW x) = levOf t.lv (c, orgW o, tenW x) + Q * 1000000000) (l3 : ∀ k : Kb, k ≠ (c, orgW o, []) → k ≠ (c, orgW o, tenW x) → levOf t'.lv k = levOf t.lv k)
    (b1 : levOf t.lv (c, orgW o, []) + Q * 1000000000 ≤ (limOrg p c o).burst * 1000000000) (b2 : levOf t.lv (c, orgW o, tenW x) + Q * 1000000000 ≤ (limTen p c o x).burst * 1000000000) (hk : ∀ y ∈ t'.lv, y.1 ∈ keys12) :
    Bnd p (i + 1) t' (setAt (setAt ms (o * 4 + x * 2 + c) (ms (o * 4 + x * 2 + c) ++ [(t.tm, Q)])) (8 + (o * 2 + c)) (ms (8 + (o * 2 + c)) ++ [(t.tm, Q)])) := by
  refine ⟨by rw [ht]; exact Nat.le_trans h.tm (Nat.mul_le_mul_right _ (Nat.le_succ i)), ok', hl.trans h.l, fun c' o' x' hc' ho' hx' => ?_, fun c' o' hc' ho' => ?_, fun j => ?_, fun j m hm => ?_, hk⟩
  · rw [setAt_ne _ _ (by omega), ht]
    by_cases e : o' * 4 + x' * 2 + c' = o * 4 + x * 2 + c
    · have e1 : c' = c := by omega
      have e2 : o' = o := by omega
      have e3 : x' = x := by omega
      subst e1 e2 e3
      rw [setAt_at, l2]
      exact (h.ten c' o' x' hc ho hx).pass Q b2
    · rw [setAt_ne _ _ e, l3 _ (fun e2 => tenW_ne x' (congrArg (·.2.2) e2)) (fun e2 => e (by
        have e3 : c' = c := congrArg (·.1) e2
        have e4 := orgW_inj ho' ho (congrArg (·.2.1) e2)
        have e5 := tenW_inj hx' hx (congrArg (·.2.2) e2)
        rw [e3, e4, e5]))]
      exact h.ten c' o' x' hc' ho' hx'
  · rw [ht]
    by_cases e : 8 + (o' * 2 + c') = 8 + (o * 2 + c)
    · have e1 : c' = c := by omega
      have e2 : o' = o := by omega
      subst e1 e2
      rw [setAt_at, l1]
      exact (h.org c' o' hc ho).pass Q b1
    · rw [setAt_ne _ _ e, setAt_ne _ _ (by omega), l3 _ (fun e2 => e (by
        have e3 : c' = c := congrArg (·.1) e2
        have e4 := orgW_inj ho' ho (congrArg (·.2.1) e2)
        rw [e3, e4])) (fun e2 => tenW_ne x (congrArg (·.2.2) e2).symm)]
      exact h.org c' o' hc' ho'
  · by_cases e : j = 8 + (o * 2 + c)
    · subst e; rw [setAt_at, List.length_append]; have := h.len (8 + (o * 2 + c)); simp; omega
    · rw [setAt_ne _ _ e]
      by_cases e2 : j = o * 4 + x * 2 + c
      · subst e2; rw [setAt_at, List.length_append]; have := h.len (o * 4 + x * 2 + c); simp; omega
      · rw [setAt_ne _ _ e2]; exact Nat.le_succ_of_le (h.len j)
  · by_cases e : j = 8 + (o * 2 + c)
    · subst e
      rw [setAt_at] at hm
      rcases List.mem_append.1 hm with hm | hm
      · exact h.cost _ m hm
      · simp at hm; rw [hm]; exact hQ
    · rw [setAt_ne _ _ e] at hm
      by_cases e2 : j = o * 4 + x * 2 + c
      · subst e2
        rw [setAt_at] at hm
        rcases List.mem_append.1 hm with hm | hm
        · exact h.cost _ m hm
        · simp at hm; rw [hm]; exact hQ
      · rw [setAt_ne _ _ e2] at hm; exact h.cost j m hm

/-- The levels when a cost is let through. -/
theorem put_two {lv : Lv} (hv : OkV lv) {c o x : Nat} (A B : Nat) (ok2 : OkV (putV (putV lv (c, orgW o, []) A) (c, orgW o, tenW x) B)) (ok1 : OkV (putV lv (c, orgW o, []) A)) :
    levOf (putV (putV lv (c, orgW o, []) A) (c, orgW o, tenW x) B) (c, orgW o, []) = A ∧ levOf (putV (putV lv (c, orgW o, []) A) (c, orgW o, tenW x) B) (c, orgW o, tenW x) = B ∧
      ∀ k : Kb, k ≠ (c, orgW o, []) → k ≠ (c, orgW o, tenW x) → levOf (putV (putV lv (c, orgW o, []) A) (c, orgW o, tenW x) B) k = levOf lv k := by
  have hne : ((c, orgW o, []) : Kb) ≠ (c, orgW o, tenW x) := fun e => tenW_ne x (congrArg (·.2.2) e).symm
  refine ⟨?_, ?_, fun k h1 h2 => ?_⟩
  · rw [levOf_put _ _ _ _ ok1 ok2, if_neg hne, levOf_put _ _ _ _ hv ok1, if_pos rfl]
  · rw [levOf_put _ _ _ _ ok1 ok2, if_pos rfl]
  · rw [levOf_put _ _ _ _ ok1 ok2, if_neg h2, levOf_put _ _ _ _ hv ok1, if_neg h1]

theorem put_keys {lv : Lv} (h : ∀ y ∈ lv, y.1 ∈ keys12) {c o x : Nat} (hc : c < 2) (ho : o < 2) (hx : x < 2) (A B : Nat) : ∀ y ∈ putV (putV lv (c, orgW o, []) A) (c, orgW o, tenW x) B, y.1 ∈ keys12 := by
  intro y hy
  rcases putV_mem.1 hy with ⟨hy, _⟩ | rfl
  · rcases putV_mem.1 hy with ⟨hy, _⟩ | rfl
    · exact h y hy
    · exact keys_org c o hc ho
  · exact keys_ten c o x hc ho hx

end Go.Proofs.YthmhfilkgggagaaGreatDoor

namespace Go.Proofs.YthmhfilkgggagaaGreatDoor
open Go.RowKit Go.Maps Go.Sort

theorem Bnd.early {p : Nat → Sl.Lim} {i : Nat} {t : St} {ms : Nat → List Mo} (h : Bnd p i t ms) (hi : i < 60) : t.tm ≤ 180000060000 := Nat.le_trans h.tm (Nat.mul_le_mul_right 3000001000 (Nat.le_of_lt hi))

theorem tm_step {a i d : Nat} (h : a ≤ i * 3000001000) (hd : d ≤ 3000001000) : a + d ≤ (i + 1) * 3000001000 := by
  rw [Nat.succ_mul]; exact Nat.add_le_add h hd

theorem ok_org (c o : Nat) (hc : c < 2) : OkK (c, orgW o, []) := ⟨hc, by show (orgW o).length ≤ 2000; unfold orgW; split <;> simp, by simp⟩

/-- All of a round in which a cost is let through. -/
theorem Bnd.through {p : Nat → Sl.Lim} {i : Nat} {t t' : St} {ms : Nat → List Mo} (h : Bnd p i t ms) (hp : OkP 2 p) (c o x Q : Nat) (hc : c < 2) (ho : o < 2) (hx : x < 2) (hQ1 : 1 ≤ Q) (hQ : Q ≤ 12) (hl : t'.l = t.l) (ht : t'.tm = t.tm) (ok' : OkV t'.lv)
    (hv : t'.lv = putV (putV t.lv (c, orgW o, []) (levOf t.lv (c, orgW o, []) + Q * 1000000000)) (c, orgW o, tenW x) (levOf t.lv (c, orgW o, tenW x) + Q * 1000000000))
    (b1 : levOf t.lv (c, orgW o, []) + Q * 1000000000 ≤ (limK t.l (c, orgW o, [])).burst * 1000000000) (b2 : levOf t.lv (c, orgW o, tenW x) + Q * 1000000000 ≤ (limK t.l (c, orgW o, tenW x)).burst * 1000000000) :
    Bnd p (i + 1) t' (setAt (setAt ms (o * 4 + x * 2 + c) (ms (o * 4 + x * 2 + c) ++ [(t.tm, Q)])) (8 + (o * 2 + c)) (ms (8 + (o * 2 + c)) ++ [(t.tm, Q)])) ∧ levOf t'.lv (c, orgW o, []) = levOf t.lv (c, orgW o, []) + Q * 1000000000 := by
  rw [h.l, limK_org (holds_self p) hp c o hc ho] at b1
  rw [h.l, limK_ten (holds_self p) hp c o x hc ho hx] at b2
  have hb := (limOrg_ok hp c o hc).2.2
  have ok1 := h.ok.put (ok_org c o hc) (v := levOf t.lv (c, orgW o, []) + Q * 1000000000) (by omega) (by omega)
  obtain ⟨l1, l2, l3⟩ := put_two h.ok (c := c) (o := o) (x := x) _ _ (by rw [← hv]; exact ok') ok1
  rw [← hv] at l1 l2 l3
  exact ⟨h.pass c o x Q hc ho hx hQ hl ht ok' l1 l2 l3 b1 b2 (by rw [hv]; exact put_keys h.keys hc ho hx _ _), l1⟩

end Go.Proofs.YthmhfilkgggagaaGreatDoor
