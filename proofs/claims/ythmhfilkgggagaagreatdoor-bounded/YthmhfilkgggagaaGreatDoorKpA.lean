/-
  Plans and sluices: the limits of a plan's buckets; a text with a line that is none; what is decided of a first request.
  Plans and sluices: a plan's functions, a sluice of a plan, rows of cells across the calls.
-/
import Derived.Test.YthmhfilkgggagaaGreatDoorLevC
import Derived.Test.YthmhfilkgggagaaGreatDoorTold3
namespace Go.Proofs.YthmhfilkgggagaaGreatDoor
open Go.RowKit Go.Maps Go.Sort

theorem limK_ten {p : Nat → Sl.Lim} {l : List (Sl.Subj × Sl.Lim)} (h : Holds p l) (hp : OkP 2 p) (c o t : Nat) (hc : c < 2) (ho : o < 2) (ht : t < 2) : limK l (c, orgW o, tenW t) = limTen p c o t := by
  have := h.limTen hp c o t hc ho ht
  unfold limitA at this
  rw [bucket_ok c hc _ _ (org_name o) (.inr (ten_name t))] at this
  simp only [if_true] at this
  exact (Prod.mk.inj this).1

theorem limK_org {p : Nat → Sl.Lim} {l : List (Sl.Subj × Sl.Lim)} (h : Holds p l) (hp : OkP 2 p) (c o : Nat) (hc : c < 2) (ho : o < 2) : limK l (c, orgW o, []) = limOrg p c o := by
  have := h.limOrg hp c o hc ho
  unfold limitA at this
  rw [bucket_ok c hc _ _ (org_name o) (.inl rfl)] at this
  simp only [if_true] at this
  exact (Prod.mk.inj this).1

theorem limTen_ok {p : Nat → Sl.Lim} (hp : OkP 2 p) (c o t : Nat) (hc : c < 2) : OkLim (limTen p c o t) := by
  unfold limTen
  split
  · next h =>
    rcases hp.2 (8 + 4 * o + 2 * t + c) with h1 | h1
    · exact h1
    · rw [h1] at h; simp [noLim] at h
  · exact (hp.1 c hc).2

theorem limOrg_ok {p : Nat → Sl.Lim} (hp : OkP 2 p) (c o : Nat) (hc : c < 2) : OkLim (limOrg p c o) := by
  unfold limOrg
  split
  · next h =>
    rcases hp.2 (4 + 2 * o + c) with h1 | h1
    · exact h1
    · rw [h1] at h; simp [noLim] at h
  · exact (hp.1 c hc).1

/-- A line more that is none. -/
theorem read_x {p : Nat → Sl.Lim} (h : OkP 2 p) : readS (upD p 2 ++ [120, 10]) = (none, 1, (entries p).length + 1) := by
  have hl := plan_len h
  rw [plan_flat h]
  have e0 : Sl.lines [120, 10] = [[120], []] := rfl
  have e1 : Sl.lines (flat (lns p) ++ [120, 10]) = (entries p).map lineB ++ [[120], []] := by
    rw [lines_flat (lns p) [120, 10] (fun l hl => (lns_ok h l hl).noTen), e0]; rfl
  have n1 : Sl.nothing (Sl.fields [120]) = false := by decide
  have n2 : Sl.line (Sl.fields [120]) = none := by decide
  have e2 : (Sl.scan 0 (Sl.lines (flat (lns p) ++ [120, 10])) []).2 = (entries p).length + 1 := by
    rw [e1, scan_say _ _ _ _ (ent_ok h)]
    unfold Sl.scan
    simp [n1, n2]
  unfold readS
  rw [if_neg (by simp; omega), if_pos (by rw [e2]; omega), e2]

theorem ent_four {p : Nat → Sl.Lim} (h : OkP 2 p) : 4 ≤ (entries p).length := by
  have hs : ∀ i, i < 4 → i ∈ places p := by
    intro i hi
    rw [places_mem]
    refine ⟨by omega, ?_⟩
    match i, hi with
    | 0, _ => exact (h.1 0 (by omega)).1.1.1
    | 1, _ => exact (h.1 1 (by omega)).1.1.1
    | 2, _ => exact (h.1 0 (by omega)).2.1.1
    | 3, _ => exact (h.1 1 (by omega)).2.1.1
    | n + 4, h => exact absurd h (by omega)
  have e : (entries p).length = (places p).length := by simp [entries]
  rw [e]
  have h0 := hs 0 (by omega); have h1 := hs 1 (by omega); have h2 := hs 2 (by omega); have h3 := hs 3 (by omega)
  match hp : places p with
  | [] => rw [hp] at h0; simp at h0
  | [a] => rw [hp] at h0 h1; simp at h0 h1; omega
  | [a, b] => rw [hp] at h0 h1 h2; simp at h0 h1 h2; omega
  | [a, b, c] => rw [hp] at h0 h1 h2 h3; simp at h0 h1 h2 h3; omega
  | a :: b :: c :: d :: r => simp

/-- A cost that is above neither burst, at empty levels: it is let through. -/
theorem admit_first (l : List (Sl.Subj × Sl.Lim)) (k : Kb) (cost : Nat) (h1 : cost ≤ (limK l (k.1, k.2.1, [])).burst) (h2 : cost ≤ (limK l k).burst) (r1 : 0 < (limK l (k.1, k.2.1, [])).rate) (r2 : 0 < (limK l k).rate) :
    admitS l [] k cost = ((204, 0, 0), putV (putV [] (k.1, k.2.1, []) (cost * 1000000000)) k (cost * 1000000000)) := by
  have l0 : ∀ q : Kb, levOf [] q = 0 := fun q => rfl
  have wz : ∀ (r b : Nat), 0 < r → cost ≤ b → waitV 0 r b cost = 0 := by
    intro r b hr hb
    unfold waitV
    rw [Nat.div_eq_zero_iff]
    right
    omega
  unfold admitS
  rw [if_neg (by omega), emptyN_two, l0, l0, if_neg (by simp), wz _ _ r1 h1, wz _ _ r2 h2, if_neg (by simp)]
  simp

/-- What Admit answers of a tenant of a plan. -/
theorem admA_plan (l : List (Sl.Subj × Sl.Lim)) (lv : Lv) (c o t : Nat) (cost : Nat) (hc : c < 2) (h1 : 1 ≤ cost) (h2 : cost ≤ 1000000) : admA l lv (Sl.classW c) (orgW o) (tenW t) cost = (((admitS l lv (c, orgW o, tenW t) cost).1, 0), (admitS l lv (c, orgW o, tenW t) cost).2) := by
  unfold admA
  rw [bucket_ok c hc _ _ (org_name o) (.inr (ten_name t))]
  rw [if_neg (by simp [tenW_ne]), if_neg (by omega)]
  simp

theorem levelA_ten (lv : Lv) (c o t : Nat) (hc : c < 2) : levelA lv (Sl.classW c) (orgW o) (tenW t) = (levOf lv (c, orgW o, tenW t), 0) := by
  unfold levelA
  rw [bucket_ok c hc _ _ (org_name o) (.inr (ten_name t))]
  rfl

theorem levelA_org (lv : Lv) (c o : Nat) (hc : c < 2) : levelA lv (Sl.classW c) (orgW o) [] = (levOf lv (c, orgW o, []), 0) := by
  unfold levelA
  rw [bucket_ok c hc _ _ (org_name o) (.inl rfl)]
  rfl

end Go.Proofs.YthmhfilkgggagaaGreatDoor

namespace Go.Proofs.YthmhfilkgggagaaGreatDoor
open Go.RowKit Go.Maps Go.Sort

theorem Held.range {s : St} {W : World} {b : Nat} {cs : List Value} (h : Held s W b cs) : W.rangeAt b 0 cs := fun j v hv => by rw [Nat.zero_add]; exact h.at_ j v hv

theorem Held.of_range {s : St} {W : World} {b : Nat} {cs : List Value} (h : W.rangeAt b 0 cs) (hl : b < W.heap.size) (ho : ¬ s.foot b) : Held s W b cs := ⟨fun j v hv => by have := h j v hv; rwa [Nat.zero_add] at this, hl, ho⟩

theorem Held.made2 {s : St} {w : World} (h : s.At w) (a b : Array Value) (t t' : TypeId) : Held s ((w.alloc (.cells a t)).alloc (.cells b t')) w.heap.size a.toList ∧ Held s ((w.alloc (.cells a t)).alloc (.cells b t')) (w.heap.size + 1) b.toList := by
  have h1 := Held.made h a t
  have h2 := Held.made (IsSl.below h (Below.alloc1 w (.cells a t)) : s.At (w.alloc (.cells a t))) b t'
  rw [World.size_alloc] at h2
  exact ⟨h1.below (Below.alloc1 _ _), h2⟩

/-- A load of a row that is wanted, though it stands behind a guard. -/
theorem wpList_load_guarded {P : Program} {ops : Array Oper} {rest : List Oper} {op : Oper} {a : Act} {w : World} {Q : Exit → Act → World → Prop} (hgd : Region.wanted op (yielded ops a.tmps) = true) (ty : TypeId) (x : Operand) (ho : op.op = .load ty x)
    (b o : Nat) (hx : a.eval x = .pointer (some ⟨b, o, none⟩)) (cs : List Value) (d : TypeDesc) (hc : w.rangeAt b o cs)
    (hu : P.underlying ty = some d) (hd : d.isRow = true) (hi : (P.info? ty).map (·.size) = some cs.length)
    (h : wpList P ops Q rest (a.put op.dst (.agg cs.toArray)) w) : wpList P ops Q (op :: rest) a w :=
  wpList_step fun K hK => by
    rw [hgd]
    simp only [if_true]
    exact wp_load_mid ty x ho b o hx cs d hc hu hd hi (hK _ _ h)

/-- The functions of a plan, of its cells as they lie. -/
structure PlanF (p : Nat → Sl.Lim) (cs : List Value) (T : ByteArray) : Prop where
  len : cs.length = 32
  canonical : ∀ W, Calls Tryz.prog 18 #[.agg cs.toArray] W fun e w' => e = .returned (.string T) ∧ Below W.heap.size W w'
  made : ∀ W, Env W → Calls Tryz.prog 15 #[.agg cs.toArray] W fun e w' => ∃ s : St, e = .returned (.pointer (some ⟨s.sb, 0, none⟩)) ∧ s.At w' ∧ Below W.heap.size W w' ∧ (∀ k, s.foot k → W.heap.size ≤ k) ∧ s.l = entries p ∧ s.tm = 0 ∧ s.lv = []
  limits : ∀ (c o t : Nat) (W : World), c < 2 → o < 2 → t < 2 → Calls Tryz.prog 21 #[.agg cs.toArray, .int .i64 c, .int .i64 o, .int .i64 t] W fun e w' => e = .returned (.tuple #[.agg #[.int .i64 (limTen p c o t).rate, .int .i64 (limTen p c o t).burst], .agg #[.int .i64 (limOrg p c o).rate, .int .i64 (limOrg p c o).burst]]) ∧ Below W.heap.size W w'

theorem plan_f (p : Nat → Sl.Lim) (hp : OkP 2 p) : PlanF p (pc p).toList ⟨(upD p 2).toArray⟩ := by
  refine ⟨rfl, fun W => canonical_any p W hp.small, ?_, fun c o t W hc ho ht => planLimits_any p c o t W hc ho ht⟩
  intro W hE
  refine (made_any p W hp hE).mono ?_
  rintro e w' ⟨hb, sb, tb, mb, n, lb, rfl, h, h1, h2, h3, h4⟩
  refine ⟨⟨sb, tb, mb, n, lb, 0, entries p, []⟩, rfl, h, hb, fun k hk => ?_, rfl, rfl, rfl⟩
  rcases hk with hk | hk | hk | hk <;> (have := hk; simp only [] at this; omega)

theorem st_tick_ok (s : St) (d : Nat) (w : World) (h : s.At w) (hd : s.tm + d ≤ 1000000000000) : Calls Tryz.prog 31 #[.pointer (some ⟨s.sb, 0, none⟩), .int .i64 d] w fun e w' => e = .returned (.int .i64 0) ∧
    ∃ t, Went s t w w' ∧ t.l = s.l ∧ t.tm = s.tm + d ∧ t.lv = fallV s.l d s.lv := by
  have h1 := st_tick s (d : Int) w h
  have e : tickA s.tm (d : Int) = 0 := by unfold tickA; rw [if_neg (by omega)]
  rw [e] at h1
  simpa using h1

/-- The dice of a call, in a block of their own. -/
theorem dice_laid {w W : World} (hb : Below w.heap.size w W) (cp : Option Addr) (cn cc : Nat) (hn : cn ≤ 281474976710656) (hcode : 0 < cn → ∃ a, cp = some a ∧ a.block < w.heap.size ∧ ∀ i, i < cn → ∃ x : Int, w.cell? (a.add i) = some (.int .i64 x) ∧ -9223372036854775808 ≤ x ∧ x ≤ 9223372036854775807) :
    Dice (W.alloc (.cells #[.slice cp cn cc, .int .i64 0] 36)) W.heap.size w.heap.size := by
  refine ⟨cp, cn, cc, 0, (MapKept.heap_alloc W _).1, hb.size, hn, Nat.zero_le _, fun h => ?_⟩
  obtain ⟨a, e, ha, hx⟩ := hcode h
  refine ⟨a, e, ha, fun i hi => ?_⟩
  obtain ⟨x, hc, hr⟩ := hx i hi
  have hl : (a.add i).block < w.heap.size := by rw [addr_block]; exact ha
  exact ⟨x, by rw [World.cell?_alloc_lt _ _ _ (Nat.lt_of_lt_of_le hl hb.size), hb.cell hl]; exact hc, hr⟩

/-- A plan out of the dice, laid into a block of its own. -/
theorem plan_taken {W W1 : World} {cp : Option Addr} {cn cc : Nat} (hg : (W.alloc (.cells #[.slice cp cn cc, .int .i64 0] 36)).grownBy W1 (some W.heap.size)) : Below W.heap.size W W1 :=
  (Below.alloc1 W _).grown hg (by simp) (fun j hj => by cases hj; exact Nat.le_refl _)

end Go.Proofs.YthmhfilkgggagaaGreatDoor
