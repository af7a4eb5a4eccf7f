/-
  The small functions of the statement Told: raw numbers, names.
-/
import Derived.Test.YthmhfilkgggagaaGreatDoorSluice
namespace Go.Proofs.YthmhfilkgggagaaGreatDoor
open Go.RowKit Go.Maps Go.Sort

theorem tmod_pick (x : Int) (n : Nat) (hx : 0 ≤ x) (hn : 0 < n) : ∃ r : Nat, r < n ∧ Int.tmod x n = r := by
  refine ⟨(Int.tmod x n).toNat, ?_, ?_⟩
  · have h1 := Int.tmod_lt_of_pos x (b := (n : Int)) (by omega)
    have h2 := Int.tmod_nonneg (n : Int) hx
    omega
  · have h2 := Int.tmod_nonneg (n : Int) hx
    omega

theorem ret_int {a : Int} {r : Nat} (h : a = r) : Ending.returned (.int .i64 a) = .returned (.int .i64 r) := by rw [h]

set_option maxRecDepth 100000 in
set_option maxHeartbeats 1000000 in
theorem pick_any (c : Int) (n : Nat) (w : World) (h1 : -9223372036854775808 ≤ c) (h2 : c ≤ 9223372036854775807) (hn : 0 < n) (hn2 : n ≤ 9223372036854775807) :
    Calls Tryz.prog 20 #[.int .i64 c, .int .i64 n] w fun e w' => w' = w ∧ ∃ r : Nat, r < n ∧ e = .returned (.int .i64 r) := by
  by_cases hc : c < 0
  · go_enter Tryz.func20, Tryz.ntmps20
    go_wp2
    go_ret
    obtain ⟨r, hr, e⟩ := tmod_pick (-(c + 1)) n (by omega) hn
    refine ⟨rfl, r, hr, ret_int ?_⟩
    rw [← e, Int.neg_tmod]
  · go_enter Tryz.func20, Tryz.ntmps20
    go_wp2
    go_ret
    obtain ⟨r, hr, e⟩ := tmod_pick c n (by omega) hn
    refine ⟨rfl, r, hr, ret_int ?_⟩
    rw [← e, Int.tmod_eq_emod_of_nonneg (by omega)]

def orgW (o : Nat) : List UInt8 := if o = 0 then [97, 99, 109, 101] else [206, 177, 45, 57]
def tenW (t : Nat) : List UInt8 := if t = 0 then [97] else [207, 137]

theorem class_any (c : Nat) (w : World) (hc : c < 2) : Calls Tryz.prog 23 #[.int .i64 c] w fun e w' => e = .returned (.string ⟨(Sl.classW c).toArray⟩) ∧ w' = w := by
  match c, hc with
  | 0, _ =>
    go_enter Tryz.func23, Tryz.ntmps23
    go_wp2
    go_ret
    exact ⟨rfl, rfl⟩
  | 1, _ =>
    go_enter Tryz.func23, Tryz.ntmps23
    go_wp2
    go_ret
    exact ⟨rfl, rfl⟩

theorem org_any (c : Nat) (w : World) (hc : c < 2) : Calls Tryz.prog 24 #[.int .i64 c] w fun e w' => e = .returned (.string ⟨(orgW c).toArray⟩) ∧ w' = w := by
  match c, hc with
  | 0, _ =>
    go_enter Tryz.func24, Tryz.ntmps24
    go_wp2
    go_ret
    exact ⟨rfl, rfl⟩
  | 1, _ =>
    go_enter Tryz.func24, Tryz.ntmps24
    go_wp2
    go_ret
    exact ⟨rfl, rfl⟩

theorem tenant_any (c : Nat) (w : World) (hc : c < 2) : Calls Tryz.prog 25 #[.int .i64 c] w fun e w' => e = .returned (.string ⟨(tenW c).toArray⟩) ∧ w' = w := by
  match c, hc with
  | 0, _ =>
    go_enter Tryz.func25, Tryz.ntmps25
    go_wp2
    go_ret
    exact ⟨rfl, rfl⟩
  | 1, _ =>
    go_enter Tryz.func25, Tryz.ntmps25
    go_wp2
    go_ret
    exact ⟨rfl, rfl⟩

theorem addr_block (a : Addr) (i : Nat) : (a.add i).block = a.block := by unfold Addr.add; split <;> rfl

/-- Raw numbers, taken one by one: the block of the dice, and the numbers below B. -/
def Dice (w : World) (db B : Nat) : Prop := ∃ (p : Option Addr) (n cap k : Nat), w.heap[db]? = some (.cells #[.slice p n cap, .int .i64 k] 36 (0, 0)) ∧ B ≤ db ∧ n ≤ 281474976710656 ∧ k ≤ n ∧
  (0 < n → ∃ a, p = some a ∧ a.block < B ∧ ∀ i, i < n → ∃ x : Int, w.cell? (a.add i) = some (.int .i64 x) ∧ -9223372036854775808 ≤ x ∧ x ≤ 9223372036854775807)

theorem Dice.kept {w w' : World} {db B : Nat} (h : Dice w db B) (hb : Below B w w') (hd : w'.heap[db]? = w.heap[db]?) : Dice w' db B := by
  obtain ⟨p, n, cap, k, h1, h2, h3, h4, h5⟩ := h
  refine ⟨p, n, cap, k, hd.trans h1, h2, h3, h4, fun hn => ?_⟩
  obtain ⟨a, rfl, ha, hx⟩ := h5 hn
  refine ⟨a, rfl, ha, fun i hi => ?_⟩
  obtain ⟨x, hc, hr⟩ := hx i hi
  exact ⟨x, (hb.cell (p := a.add i) (by rw [addr_block]; exact ha)).trans hc, hr⟩

set_option maxRecDepth 100000 in
set_option maxHeartbeats 1000000 in
theorem next_any (n : Nat) (db B : Nat) (w : World) (hd : Dice w db B) (hn : 0 < n) (hn2 : n ≤ 9223372036854775807) :
    Calls Tryz.prog 27 #[.pointer (some ⟨db, 0, none⟩), .int .i64 n] w fun e w' => Dice w' db B ∧ w.grownBy w' (some db) ∧ ∃ r : Nat, r < n ∧ e = .returned (.int .i64 r) := by
  obtain ⟨p, m, cap, k, h1, h2, h3, h4, h5⟩ := hd
  have c0 : w.cell? ⟨db, 0, none⟩ = some (.slice p m cap) := by simp [World.cell?, h1]
  have c1 : w.cell? ⟨db, 1, none⟩ = some (.int .i64 k) := by simp [World.cell?, h1]
  have f1 : w.frozen? ⟨db, 1, none⟩ = false := by simp [World.frozen?, h1]
  by_cases hk : k < m
  · obtain ⟨a, rfl, ha, hx⟩ := h5 (by omega)
    obtain ⟨x, hc, hr1, hr2⟩ := hx k hk
    have hpk := hide (fun w => pick_any x n w hr1 hr2 hn hn2)
    have H1 := hide h1; have H5 := hide h5
    clear h1 h5 hx
    go_enter Tryz.func27, Tryz.ntmps27
    go_wp2_with fail
    go_region_held3 (fun w' => w'.cell? ⟨db, 0, none⟩ = some (.slice (some a) m cap) ∧ w'.cell? ⟨db, 1, none⟩ = some (.int .i64 k)) (go_keep) (fail)
    go_wp2_with fail
    go_region_held3 (fun w' => w'.cell? ⟨db, 0, none⟩ = some (.slice (some a) m cap) ∧ w'.cell? ⟨db, 1, none⟩ = some (.int .i64 k) ∧ w'.cell? (a.add k) = some (.int .i64 x)) (go_keep)
      (first | (go_at_call 20; refine (unhide hpk _).mono ?_; rintro e w2 ⟨rfl, r, hr, rfl⟩))
    go_wp2
    go_ret
    have hg : w.grownBy ((w.setCell ⟨db, 1, none⟩ (.int .i64 ((k : Int) + 1))).drew.drew) (some db) := ((grown_set w db 1 _).trans (grown_drew _)).trans (grown_drew _)
    refine ⟨⟨some a, m, cap, k + 1, ?_, h2, h3, hk, fun hm => ?_⟩, hg, r, hr, rfl⟩
    · exact heap_setCell_at (unhide H1) 1 _
    · obtain ⟨a', e, ha', hx'⟩ := unhide H5 hm
      cases e
      refine ⟨a, rfl, ha, fun i hi => ?_⟩
      obtain ⟨y, hy, hyr⟩ := hx' i hi
      exact ⟨y, (World.cell?_of_block (a := a.add i) (hg.block _ (by rw [addr_block]; have := cell_lt c1; omega) (by rw [addr_block]; simp; omega))).trans hy, hyr⟩
  · have H1 := hide h1; have H5 := hide h5
    clear h1 h5
    go_enter Tryz.func27, Tryz.ntmps27
    go_wp2_with fail
    go_region_held3 (fun w' => w'.cell? ⟨db, 0, none⟩ = some (.slice p m cap) ∧ w'.cell? ⟨db, 1, none⟩ = some (.int .i64 k)) (go_keep) (fail)
    go_wp2
    go_ret
    exact ⟨⟨p, m, cap, k, unhide H1, h2, h3, h4, unhide H5⟩, grown_drew _, 0, hn, rfl⟩

/-- A limit as the dice give it. -/
def OkLim (l : Sl.Lim) : Prop := (1 ≤ l.rate ∧ l.rate ≤ 50) ∧ 1 ≤ l.burst ∧ l.burst ≤ 30

theorem Dice.lt {w : World} {db B : Nat} (h : Dice w db B) : db < w.heap.size := by
  obtain ⟨p, n, cap, k, h1, _⟩ := h
  exact (Array.getElem?_eq_some_iff.1 h1).1

theorem Dice.alloc {w : World} {db B : Nat} (h : Dice w db B) (o : Obj) : Dice (w.alloc o) db B :=
  have hB : B ≤ w.heap.size := by obtain ⟨p, n, cap, k, h1, h2, _⟩ := id h; have := h.lt; omega
  h.kept ((Below.refl _ _).alloc hB o) ((Below.alloc1 w o).block db h.lt)

theorem Dice.set {w : World} {db B b i : Nat} (h : Dice w db B) (hb : B ≤ b) (hne : db ≠ b) (v : Value) : Dice (w.setCell ⟨b, i, none⟩ v) db B :=
  h.kept ((Below.refl B w).setCell hb v) (Below.heap_setCell _ _ _ _ hne)

theorem Dice.low {w : World} {db B : Nat} (h : Dice w db B) : B ≤ db := by
  obtain ⟨p, n, cap, k, h1, h2, _⟩ := h
  exact h2

theorem grown_alloc (w : World) (o : Obj) (row : Option Nat) : w.grownBy (w.alloc o) row := grown_below (Below.alloc1 w o)

theorem Two.grown {W w : World} {n : Nat} {a b : Value} (h : Two W n a b) {row : Option Nat} (hg : W.grownBy w row) (hr : some n ≠ row) : Two w n a b := by
  obtain ⟨h0, h1, f0, f1, hn⟩ := h
  have hb := hg.block n hn hr
  exact ⟨(World.cell?_of_block (a := ⟨n, 0, none⟩) hb).trans h0, (World.cell?_of_block (a := ⟨n, 1, none⟩) hb).trans h1, (frozen_block (a := ⟨n, 0, none⟩) hb).trans f0, (frozen_block (a := ⟨n, 1, none⟩) hb).trans f1, Nat.lt_of_lt_of_le hn hg.size⟩

theorem grown_set_new {w w' : World} {row : Option Nat} (hg : w.grownBy w' row) {b i : Nat} (hb : w.heap.size ≤ b) (v : Value) : w.grownBy (w'.setCell ⟨b, i, none⟩ v) row :=
  ⟨hg.os, hg.tape, hg.output, Nat.le_trans hg.size (by simp), fun j hj hne => (Below.heap_setCell _ _ _ _ (by show j ≠ b; omega)).trans (hg.block j hj hne)⟩

set_option maxRecDepth 100000 in
set_option maxHeartbeats 1000000 in
theorem limitD_any (db B : Nat) (w : World) (hd : Dice w db B) :
    Calls Tryz.prog 40 #[.pointer (some ⟨db, 0, none⟩)] w fun e w' => Dice w' db B ∧ w.grownBy w' (some db) ∧ ∃ l, OkLim l ∧ e = .returned (limV l) := by
  have hdl := hd.lt
  have hdw := hd.low
  have hn1 := hide (next_any 50 db B (w.alloc (.cells #[.int .i64 0, .int .i64 0] 27)) (hd.alloc _) (by omega) (by omega))
  clear hd
  go_enter Tryz.func40, Tryz.ntmps40
  go_wp2_with fail
  refine (unhide hn1).mono ?_
  rintro e w1 ⟨hd1, hg1, r1, hr1, rfl⟩
  have hn2 := hide (next_any 30 db B w1 hd1 (by omega) (by omega))
  have t1 := (Two.made w (.int .i64 0) (.int .i64 0) 27).grown hg1 (by simp; omega)
  have hg1' := (grown_alloc w (.cells #[.int .i64 0, .int .i64 0] 27) (some db)).trans hg1
  have T1 := hide t1; have G1 := hide hg1'
  clear hd1 hg1 hg1' t1
  go_wp2_with fail
  refine (unhide hn2).mono ?_
  rintro e w2 ⟨hd2, hg2, r2, hr2, rfl⟩
  have hg := (unhide G1).trans hg2
  obtain ⟨b0, b1, v0, v1, bn⟩ := (unhide T1).grown hg2 (by simp; omega)
  have D2 := hide hd2; have G2 := hide hg
  clear hd2 hg2 hg
  go_wp2
  refine bodyPost_ret (v := limV ⟨1 + r1, 1 + r2⟩) (by simp [results, Tryz.results40, go_sem, limV, b0, b1]) rfl ⟨?_, ?_, ⟨1 + r1, 1 + r2⟩, ⟨⟨by show 1 ≤ 1 + r1; omega, by show 1 + r1 ≤ 50; omega⟩, by show 1 ≤ 1 + r2; omega, by show 1 + r2 ≤ 30; omega⟩, rfl⟩
  · exact (Dice.set (Dice.set (unhide D2) (by omega) (by omega) _) (by omega) (by omega) _)
  · exact grown_set_new (grown_set_new (unhide G2) (Nat.le_refl _) _) (Nat.le_refl _) _

set_option maxRecDepth 100000 in
set_option maxHeartbeats 1000000 in
theorem maybe_any (db B : Nat) (w : World) (hd : Dice w db B) :
    Calls Tryz.prog 41 #[.pointer (some ⟨db, 0, none⟩)] w fun e w' => Dice w' db B ∧ w.grownBy w' (some db) ∧ ∃ l, (OkLim l ∨ l = noLim) ∧ e = .returned (limV l) := by
  have hdl := hd.lt
  have hdw := hd.low
  have hn1 := hide (limitD_any db B (w.alloc (.cells #[.int .i64 0, .int .i64 0] 27)) (hd.alloc _))
  clear hd
  go_enter Tryz.func41, Tryz.ntmps41
  go_wp2_with fail
  refine (unhide hn1).mono ?_
  rintro e w1 ⟨hd1, hg1, l, hl, rfl⟩
  have hs1 : w.heap.size < w1.heap.size := by have := hg1.size; simp at this; omega
  have hn2 := hide (next_any 2 db B (w1.alloc (.cells #[.int .i64 l.rate, .int .i64 l.burst] 27)) (hd1.alloc _) (by omega) (by omega))
  have t1 := ((Two.made w (.int .i64 0) (.int .i64 0) 27).grown hg1 (by simp; omega)).grown (grown_alloc w1 (.cells #[.int .i64 l.rate, .int .i64 l.burst] 27) none) (by simp)
  have hg1' := ((grown_alloc w (.cells #[.int .i64 0, .int .i64 0] 27) (some db)).trans hg1).trans (grown_alloc w1 (.cells #[.int .i64 l.rate, .int .i64 l.burst] 27) (some db))
  have T1 := hide t1; have G1 := hide hg1'; have HL := hide hl
  have hdl1 := hd1.lt
  clear hd1 hg1 hg1' t1 hl
  unfold limV
  go_wp2_with fail
  refine (unhide hn2).mono ?_
  rintro e w2 ⟨hd2, hg2, r2, hr2, rfl⟩
  have hg := (unhide G1).trans hg2
  obtain ⟨b0, b1, v0, v1, bn⟩ := (unhide T1).grown hg2 (by simp; omega)
  obtain ⟨d0, d1, u0, u1, dn⟩ := (Two.made w1 (.int .i64 l.rate) (.int .i64 l.burst) 27).grown hg2 (by simp; omega)
  have D2 := hide hd2; have G2 := hide hg
  clear hd2 hg2 hg
  match r2, hr2 with
  | 0, _ =>
    go_wp2
    refine bodyPost_ret (v := limV noLim) (by simp [results, Tryz.results41, go_sem, limV, noLim, b0, b1]) rfl ⟨?_, ?_, noLim, .inr rfl, rfl⟩
    · exact (Dice.set (Dice.set (unhide D2) (by omega) (by omega) _) (by omega) (by omega) _)
    · exact grown_set_new (grown_set_new (unhide G2) (Nat.le_refl _) _) (Nat.le_refl _) _
  | 1, _ =>
    go_wp2
    refine bodyPost_ret (v := limV l) (by simp [results, Tryz.results41, go_sem, limV, b0, b1]) rfl ⟨?_, ?_, l, .inl (unhide HL), rfl⟩
    · exact (Dice.set (Dice.set (unhide D2) (by omega) (by omega) _) (by omega) (by omega) _)
    · exact grown_set_new (grown_set_new (unhide G2) (Nat.le_refl _) _) (Nat.le_refl _) _

end Go.Proofs.YthmhfilkgggagaaGreatDoor
