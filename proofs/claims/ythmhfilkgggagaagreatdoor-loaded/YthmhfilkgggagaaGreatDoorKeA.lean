/-
  The small functions of the statement Told: raw numbers, names.
  Numbers in decimals, and the end of a line, as the statement Told writes them.
-/
import Derived.Test.YthmhfilkgggagaaGreatDoorSluice
import Derived.Laws.IdiomStrings
namespace Go.Proofs.YthmhfilkgggagaaGreatDoor
open Go.RowKit Go.Maps Go.Sort

theorem tmod_pick (x : Int) (n : Nat) (hx : 0 ≤ x) (hn : 0 < n) : ∃ r : Nat, r < n ∧ Int.tmod x n = r := by
  refine ⟨(Int.tmod x n).toNat, ?_, ?_⟩
  · have h1 := Int.tmod_lt_of_pos x (b := (n : Int)) (by omega)
    have h2 := Int.tmod_nonneg (n : Int) hx
    omega
  · have h2 := Int.tmod_nonneg (n : Int) hx
    omega

theorem ret_int {a : Int} {r : Nat} (h : a = r) : Ending.returned (.int .i64 a) = .returned (.int .i64 r) := by rw [h]

set_option maxRecDepth 100000 in
set_option maxHeartbeats 1000000 in
theorem pick_any (c : Int) (n : Nat) (w : World) (h1 : -9223372036854775808 ≤ c) (h2 : c ≤ 9223372036854775807) (hn : 0 < n) (hn2 : n ≤ 9223372036854775807) :
    Calls Tryz.prog 20 #[.int .i64 c, .int .i64 n] w fun e w' => w' = w ∧ ∃ r : Nat, r < n ∧ e = .returned (.int .i64 r) := by
  by_cases hc : c < 0
  · go_enter Tryz.func20, Tryz.ntmps20
    go_wp2
    go_ret
    obtain ⟨r, hr, e⟩ := tmod_pick (-(c + 1)) n (by omega) hn
    refine ⟨rfl, r, hr, ret_int ?_⟩
    rw [← e, Int.neg_tmod]
  · go_enter Tryz.func20, Tryz.ntmps20
    go_wp2
    go_ret
    obtain ⟨r, hr, e⟩ := tmod_pick c n (by omega) hn
    refine ⟨rfl, r, hr, ret_int ?_⟩
    rw [← e, Int.tmod_eq_emod_of_nonneg (by omega)]

def orgW (o : Nat) : List UInt8 := if o = 0 then [97, 99, 109, 101] else [206, 177, 45, 57]
def tenW (t : Nat) : List UInt8 := if t = 0 then [97] else [207, 137]

theorem class_any (c : Nat) (w : World) (hc : c < 2) : Calls Tryz.prog 23 #[.int .i64 c] w fun e w' => e = .returned (.string ⟨(Sl.classW c).toArray⟩) ∧ w' = w := by
  match c, hc with
  | 0, _ =>
    go_enter Tryz.func23, Tryz.ntmps23
    go_wp2
    go_ret
    exact ⟨rfl, rfl⟩
  | 1, _ =>
    go_enter Tryz.func23, Tryz.ntmps23
    go_wp2
    go_ret
    exact ⟨rfl, rfl⟩

theorem org_any (c : Nat) (w : World) (hc : c < 2) : Calls Tryz.prog 24 #[.int .i64 c] w fun e w' => e = .returned (.string ⟨(orgW c).toArray⟩) ∧ w' = w := by
  match c, hc with
  | 0, _ =>
    go_enter Tryz.func24, Tryz.ntmps24
    go_wp2
    go_ret
    exact ⟨rfl, rfl⟩
  | 1, _ =>
    go_enter Tryz.func24, Tryz.ntmps24
    go_wp2
    go_ret
    exact ⟨rfl, rfl⟩

theorem tenant_any (c : Nat) (w : World) (hc : c < 2) : Calls Tryz.prog 25 #[.int .i64 c] w fun e w' => e = .returned (.string ⟨(tenW c).toArray⟩) ∧ w' = w := by
  match c, hc with
  | 0, _ =>
    go_enter Tryz.func25, Tryz.ntmps25
    go_wp2
    go_ret
    exact ⟨rfl, rfl⟩
  | 1, _ =>
    go_enter Tryz.func25, Tryz.ntmps25
    go_wp2
    go_ret
    exact ⟨rfl, rfl⟩

theorem addr_block (a : Addr) (i : Nat) : (a.add i).block = a.block := by unfold Addr.add; split <;> rfl

/-- Raw numbers, taken one by one: the block of the dice, and the numbers below B. -/
def Dice (w : World) (db B : Nat) : Prop := ∃ (p : Option Addr) (n cap k : Nat), w.heap[db]? = some (.cells #[.slice p n cap, .int .i64 k] 36 (0, 0)) ∧ B ≤ db ∧ n ≤ 281474976710656 ∧ k ≤ n ∧
  (0 < n → ∃ a, p = some a ∧ a.block < B ∧ ∀ i, i < n → ∃ x : Int, w.cell? (a.add i) = some (.int .i64 x) ∧ -9223372036854775808 ≤ x ∧ x ≤ 9223372036854775807)

theorem Dice.kept {w w' : World} {db B : Nat} (h : Dice w db B) (hb : Below B w w') (hd : w'.heap[db]? = w.heap[db]?) : Dice w' db B := by
  obtain ⟨p, n, cap, k, h1, h2, h3, h4, h5⟩ := h
  refine ⟨p, n, cap, k, hd.trans h1, h2, h3, h4, fun hn => ?_⟩
  obtain ⟨a, rfl, ha, hx⟩ := h5 hn
  refine ⟨a, rfl, ha, fun i hi => ?_⟩
  obtain ⟨x, hc, hr⟩ := hx i hi
  exact ⟨x, (hb.cell (p := a.add i) (by rw [addr_block]; exact ha)).trans hc, hr⟩

set_option maxRecDepth 100000 in
set_option maxHeartbeats 1000000 in
theorem next_any (n : Nat) (db B : Nat) (w : World) (hd : Dice w db B) (hn : 0 < n) (hn2 : n ≤ 9223372036854775807) :
    Calls Tryz.prog 27 #[.pointer (some ⟨db, 0, none⟩), .int .i64 n] w fun e w' => Dice w' db B ∧ w.grownBy w' (some db) ∧ ∃ r : Nat, r < n ∧ e = .returned (.int .i64 r) := by
  obtain ⟨p, m, cap, k, h1, h2, h3, h4, h5⟩ := hd
  have c0 : w.cell? ⟨db, 0, none⟩ = some (.slice p m cap) := by simp [World.cell?, h1]
  have c1 : w.cell? ⟨db, 1, none⟩ = some (.int .i64 k) := by simp [World.cell?, h1]
  have f1 : w.frozen? ⟨db, 1, none⟩ = false := by simp [World.frozen?, h1]
  by_cases hk : k < m
  · obtain ⟨a, rfl, ha, hx⟩ := h5 (by omega)
    obtain ⟨x, hc, hr1, hr2⟩ := hx k hk
    have hpk := hide (fun w => pick_any x n w hr1 hr2 hn hn2)
    have H1 := hide h1; have H5 := hide h5
    clear h1 h5 hx
    go_enter Tryz.func27, Tryz.ntmps27
    go_wp2_with fail
    go_region_held3 (fun w' => w'.cell? ⟨db, 0, none⟩ = some (.slice (some a) m cap) ∧ w'.cell? ⟨db, 1, none⟩ = some (.int .i64 k)) (go_keep) (fail)
    go_wp2_with fail
    go_region_held3 (fun w' => w'.cell? ⟨db, 0, none⟩ = some (.slice (some a) m cap) ∧ w'.cell? ⟨db, 1, none⟩ = some (.int .i64 k) ∧ w'.cell? (a.add k) = some (.int .i64 x)) (go_keep)
      (first | (go_at_call 20; refine (unhide hpk _).mono ?_; rintro e w2 ⟨rfl, r, hr, rfl⟩))
    go_wp2
    go_ret
    have hg : w.grownBy ((w.setCell ⟨db, 1, none⟩ (.int .i64 ((k : Int) + 1))).drew.drew) (some db) := ((grown_set w db 1 _).trans (grown_drew _)).trans (grown_drew _)
    refine ⟨⟨some a, m, cap, k + 1, ?_, h2, h3, hk, fun hm => ?_⟩, hg, r, hr, rfl⟩
    · exact heap_setCell_at (unhide H1) 1 _
    · obtain ⟨a', e, ha', hx'⟩ := unhide H5 hm
      cases e
      refine ⟨a, rfl, ha, fun i hi => ?_⟩
      obtain ⟨y, hy, hyr⟩ := hx' i hi
      exact ⟨y, (World.cell?_of_block (a := a.add i) (hg.block _ (by rw [addr_block]; have := cell_lt c1; omega) (by rw [addr_block]; simp; omega))).trans hy, hyr⟩
  · have H1 := hide h1; have H5 := hide h5
    clear h1 h5
    go_enter Tryz.func27, Tryz.ntmps27
    go_wp2_with fail
    go_region_held3 (fun w' => w'.cell? ⟨db, 0, none⟩ = some (.slice p m cap) ∧ w'.cell? ⟨db, 1, none⟩ = some (.int .i64 k)) (go_keep) (fail)
    go_wp2
    go_ret
    exact ⟨⟨p, m, cap, k, unhide H1, h2, h3, h4, unhide H5⟩, grown_drew _, 0, hn, rfl⟩

/-- A limit as the dice give it. -/
def OkLim (l : Sl.Lim) : Prop := (1 ≤ l.rate ∧ l.rate ≤ 50) ∧ 1 ≤ l.burst ∧ l.burst ≤ 30

theorem Dice.lt {w : World} {db B : Nat} (h : Dice w db B) : db < w.heap.size := by
  obtain ⟨p, n, cap, k, h1, _⟩ := h
  exact (Array.getElem?_eq_some_iff.1 h1).1

theorem Dice.alloc {w : World} {db B : Nat} (h : Dice w db B) (o : Obj) : Dice (w.alloc o) db B :=
  have hB : B ≤ w.heap.size := by obtain ⟨p, n, cap, k, h1, h2, _⟩ := id h; have := h.lt; omega
  h.kept ((Below.refl _ _).alloc hB o) ((Below.alloc1 w o).block db h.lt)

theorem Dice.set {w : World} {db B b i : Nat} (h : Dice w db B) (hb : B ≤ b) (hne : db ≠ b) (v : Value) : Dice (w.setCell ⟨b, i, none⟩ v) db B :=
  h.kept ((Below.refl B w).setCell hb v) (Below.heap_setCell _ _ _ _ hne)

theorem Dice.low {w : World} {db B : Nat} (h : Dice w db B) : B ≤ db := by
  obtain ⟨p, n, cap, k, h1, h2, _⟩ := h
  exact h2

theorem grown_alloc (w : World) (o : Obj) (row : Option Nat) : w.grownBy (w.alloc o) row := grown_below (Below.alloc1 w o)

theorem Two.grown {W w : World} {n : Nat} {a b : Value} (h : Two W n a b) {row : Option Nat} (hg : W.grownBy w row) (hr : some n ≠ row) : Two w n a b := by
  obtain ⟨h0, h1, f0, f1, hn⟩ := h
  have hb := hg.block n hn hr
  exact ⟨(World.cell?_of_block (a := ⟨n, 0, none⟩) hb).trans h0, (World.cell?_of_block (a := ⟨n, 1, none⟩) hb).trans h1, (frozen_block (a := ⟨n, 0, none⟩) hb).trans f0, (frozen_block (a := ⟨n, 1, none⟩) hb).trans f1, Nat.lt_of_lt_of_le hn hg.size⟩

theorem grown_set_new {w w' : World} {row : Option Nat} (hg : w.grownBy w' row) {b i : Nat} (hb : w.heap.size ≤ b) (v : Value) : w.grownBy (w'.setCell ⟨b, i, none⟩ v) row :=
  ⟨hg.os, hg.tape, hg.output, Nat.le_trans hg.size (by simp), fun j hj hne => (Below.heap_setCell _ _ _ _ (by show j ≠ b; omega)).trans (hg.block j hj hne)⟩

set_option maxRecDepth 100000 in
set_option maxHeartbeats 1000000 in
theorem limitD_any (db B : Nat) (w : World) (hd : Dice w db B) :
    Calls Tryz.prog 40 #[.pointer (some ⟨db, 0, none⟩)] w fun e w' => Dice w' db B ∧ w.grownBy w' (some db) ∧ ∃ l, OkLim l ∧ e = .returned (limV l) := by
  have hdl := hd.lt
  have hdw := hd.low
  have hn1 := hide (next_any 50 db B (w.alloc (.cells #[.int .i64 0, .int .i64 0] 27)) (hd.alloc _) (by omega) (by omega))
  clear hd
  go_enter Tryz.func40, Tryz.ntmps40
  go_wp2_with fail
  refine (unhide hn1).mono ?_
  rintro e w1 ⟨hd1, hg1, r1, hr1, rfl⟩
  have hn2 := hide (next_any 30 db B w1 hd1 (by omega) (by omega))
  have t1 := (Two.made w (.int .i64 0) (.int .i64 0) 27).grown hg1 (by simp; omega)
  have hg1' := (grown_alloc w (.cells #[.int .i64 0, .int .i64 0] 27) (some db)).trans hg1
  have T1 := hide t1; have G1 := hide hg1'
  clear hd1 hg1 hg1' t1
  go_wp2_with fail
  refine (unhide hn2).mono ?_
  rintro e w2 ⟨hd2, hg2, r2, hr2, rfl⟩
  have hg := (unhide G1).trans hg2
  obtain ⟨b0, b1, v0, v1, bn⟩ := (unhide T1).grown hg2 (by simp; omega)
  have D2 := hide hd2; have G2 := hide hg
  clear hd2 hg2 hg
  go_wp2
  refine bodyPost_ret (v := limV ⟨1 + r1, 1 + r2⟩) (by simp [results, Tryz.results40, go_sem, limV, b0, b1]) rfl ⟨?_, ?_, ⟨1 + r1, 1 + r2⟩, ⟨⟨by show 1 ≤ 1 + r1; omega, by show 1 + r1 ≤ 50; omega⟩, by show 1 ≤ 1 + r2; omega, by show 1 + r2 ≤ 30; omega⟩, rfl⟩
  · exact (Dice.set (Dice.set (unhide D2) (by omega) (by omega) _) (by omega) (by omega) _)
  · exact grown_set_new (grown_set_new (unhide G2) (Nat.le_refl _) _) (Nat.le_refl _) _

set_option maxRecDepth 100000 in
set_option maxHeartbeats 1000000 in
theorem maybe_any (db B : Nat) (w : World) (hd : Dice w db B) :
    Calls Tryz.prog 41 #[.pointer (some ⟨db, 0, none⟩)] w fun e w' => Dice w' db B ∧ w.grownBy w' (some db) ∧ ∃ l, (OkLim l ∨ l = noLim) ∧ e = .returned (limV l) := by
  have hdl := hd.lt
  have hdw := hd.low
  have hn1 := hide (limitD_any db B (w.alloc (.cells #[.int .i64 0, .int .i64 0] 27)) (hd.alloc _))
  clear hd
  go_enter Tryz.func41, Tryz.ntmps41
  go_wp2_with fail
  refine (unhide hn1).mono ?_
  rintro e w1 ⟨hd1, hg1, l, hl, rfl⟩
  have hs1 : w.heap.size < w1.heap.size := by have := hg1.size; simp at this; omega
  have hn2 := hide (next_any 2 db B (w1.alloc (.cells #[.int .i64 l.rate, .int .i64 l.burst] 27)) (hd1.alloc _) (by omega) (by omega))
  have t1 := ((Two.made w (.int .i64 0) (.int .i64 0) 27).grown hg1 (by simp; omega)).grown (grown_alloc w1 (.cells #[.int .i64 l.rate, .int .i64 l.burst] 27) none) (by simp)
  have hg1' := ((grown_alloc w (.cells #[.int .i64 0, .int .i64 0] 27) (some db)).trans hg1).trans (grown_alloc w1 (.cells #[.int .i64 l.rate, .int .i64 l.burst] 27) (some db))
  have T1 := hide t1; have G1 := hide hg1'; have HL := hide hl
  have hdl1 := hd1.lt
  clear hd1 hg1 hg1' t1 hl
  unfold limV
  go_wp2_with fail
  refine (unhide hn2).mono ?_
  rintro e w2 ⟨hd2, hg2, r2, hr2, rfl⟩
  have hg := (unhide G1).trans hg2
  obtain ⟨b0, b1, v0, v1, bn⟩ := (unhide T1).grown hg2 (by simp; omega)
  obtain ⟨d0, d1, u0, u1, dn⟩ := (Two.made w1 (.int .i64 l.rate) (.int .i64 l.burst) 27).grown hg2 (by simp; omega)
  have D2 := hide hd2; have G2 := hide hg
  clear hd2 hg2 hg
  match r2, hr2 with
  | 0, _ =>
    go_wp2
    refine bodyPost_ret (v := limV noLim) (by simp [results, Tryz.results41, go_sem, limV, noLim, b0, b1]) rfl ⟨?_, ?_, noLim, .inr rfl, rfl⟩
    · exact (Dice.set (Dice.set (unhide D2) (by omega) (by omega) _) (by omega) (by omega) _)
    · exact grown_set_new (grown_set_new (unhide G2) (Nat.le_refl _) _) (Nat.le_refl _) _
  | 1, _ =>
    go_wp2
    refine bodyPost_ret (v := limV l) (by simp [results, Tryz.results41, go_sem, limV, b0, b1]) rfl ⟨?_, ?_, l, .inl (unhide HL), rfl⟩
    · exact (Dice.set (Dice.set (unhide D2) (by omega) (by omega) _) (by omega) (by omega) _)
    · exact grown_set_new (grown_set_new (unhide G2) (Nat.le_refl _) _) (Nat.le_refl _) _

end Go.Proofs.YthmhfilkgggagaaGreatDoor

namespace Go.Proofs.YthmhfilkgggagaaGreatDoor
open Go.RowKit Go.Maps Go.Sort

/-- One byte made into a string. -/
theorem one_string (w : World) (x : Nat) (hx : x < 256) :
    (convert 165 9 (.slice (some ⟨w.heap.size, 0, none⟩) 1 1)).run Tryz.prog (w.alloc (.cells #[.int .u8 x] 5)) = .ok (.string ⟨#[UInt8.ofNat x]⟩) (w.alloc (.cells #[.int .u8 x] 5)) := by
  refine run_convert_bytes_back _ _ _ 5 ⟨w.heap.size, 0, none⟩ 1 [UInt8.ofNat x] Tryz.underlying165 Tryz.underlying5 Tryz.underlying9 ?_
  intro j hj
  have : j = 0 := by simp at hj; omega
  subst this
  rw [addr_add, World.cell?_alloc_new]
  simp
  omega

theorem last_digit (w : World) (n : Nat) :
    (convert 165 9 (.slice (some ⟨w.heap.size, 0, none⟩) 1 1)).run Tryz.prog (w.alloc (.cells #[.int .u8 (48 + (n : Int) % 10)] 5)) = .ok (.string ⟨#[UInt8.ofNat (48 + n % 10)]⟩) (w.alloc (.cells #[.int .u8 (48 + (n : Int) % 10)] 5)) := by
  have h := one_string w (48 + n % 10) (by omega)
  have e : ((48 + n % 10 : Nat) : Int) = 48 + (n : Int) % 10 := by omega
  rw [e] at h
  exact h

theorem cat_arr (a b : List UInt8) : (⟨a.toArray⟩ : ByteArray) ++ (⟨b.toArray⟩ : ByteArray) = ⟨(a ++ b).toArray⟩ := by
  ext1; simp

theorem cat_ret (a b : List UInt8) (v : Value) (h : v = .string ((⟨a.toArray⟩ : ByteArray) ++ (⟨b.toArray⟩ : ByteArray))) : Ending.returned v = .returned (.string ⟨(a ++ b).toArray⟩) := by
  rw [h, cat_arr]

set_option maxRecDepth 100000 in
set_option maxHeartbeats 1000000 in
theorem text_num (n : Nat) (hn : n ≤ 9223372036854775807) : ∀ (w : World),
    Calls Tryz.prog 53 #[.int .i64 n] w fun e w' => e = .returned (.string ⟨(Lib.decDigits n).toArray⟩) ∧ Below w.heap.size w w' := by
  induction n using Nat.strongRecOn with
  | _ n ih =>
    intro w
    have hcv := last_digit w n
    generalize hdg : UInt8.ofNat (48 + n % 10) = dg at *
    by_cases h10 : n < 10
    · have hd : Lib.decDigits n = [dg] := by rw [← hdg, Lib.decDigits_one h10, Nat.mod_eq_of_lt h10]
      rw [hd]
      clear ih hd hdg
      go_enter Tryz.func53, Tryz.ntmps53
      go_wp2
      go_ret
      exact ⟨rfl, Below.alloc1 _ _⟩
    · have hd : Lib.decDigits n = Lib.decDigits (n / 10) ++ [dg] := by rw [← hdg, Lib.decDigits, dif_neg h10]
      have hih := ih (n / 10) (by omega) (by omega)
      have hq : ((n / 10 : Nat) : Int) = (n : Int) / 10 := by omega
      have hl : (Lib.decDigits (n / 10)).length ≤ 20 := dec_len (n / 10) 19 (by omega)
      rw [hq] at hih
      have HIH := hide hih; have HD := hide hd
      clear ih hd hih hq hdg
      go_enter Tryz.func53, Tryz.ntmps53
      go_wp2_with fail
      refine (unhide HIH _).mono ?_
      rintro e w2 ⟨rfl, hb⟩
      go_wp2
      go_ret
      rw [unhide HD]
      exact ⟨cat_ret _ _ _ rfl, (Below.alloc1 _ _).trans (hb.mono (by simp))⟩

/-- Two strings, one behind the other. -/
theorem cat_ex (x y : ByteArray) (a b : List UInt8) (hx : x = ⟨a.toArray⟩) (hy : y = ⟨b.toArray⟩) (h : a.length + b.length ≤ 1000000000) : ∃ s : ByteArray, s = ⟨(a ++ b).toArray⟩ ∧ ∀ w, (Op.stringOp .add x y).run Tryz.prog w = .ok (.string s) w := by
  refine ⟨_, rfl, fun w => ?_⟩
  subst hx; subst hy
  have h2 := run_string_add_sum (P := Tryz.prog) (w := w) ⟨a.toArray⟩ ⟨b.toArray⟩ (by show a.toArray.size + b.toArray.size ≤ _; simp; omega)
  rw [cat_arr] at h2
  exact h2

theorem ret_str {a b : ByteArray} (h : a = b) : Ending.returned (.string a) = .returned (.string b) := by rw [h]

/-- A limit, as a line ends. -/
def wordsT (c : Nat) (l : Sl.Lim) : List UInt8 := [32] ++ Sl.classW c ++ [32] ++ Lib.decDigits l.rate ++ [32] ++ Lib.decDigits l.burst ++ [10]

set_option maxRecDepth 100000 in
set_option maxHeartbeats 1000000 in
theorem words_any (c : Nat) (l : Sl.Lim) (w : World) (hc : c < 2) (hr : l.rate ≤ 1000000) (hu : l.burst ≤ 1000000) :
    Calls Tryz.prog 42 #[.int .i64 c, limV l] w fun e w' => e = .returned (.string ⟨(wordsT c l).toArray⟩) ∧ Below w.heap.size w w' := by
  have l1 : (Lib.decDigits l.rate).length ≤ 7 := dec_len l.rate 6 (by omega)
  have l2 : (Lib.decDigits l.burst).length ≤ 7 := dec_len l.burst 6 (by omega)
  have l3 : (Sl.classW c).length ≤ 6 := by unfold Sl.classW; split <;> simp [Sl.ingestW, Sl.queryW]
  have hcl := hide (fun W => class_any c W hc)
  have ht1 := hide (text_num l.rate (by omega))
  have ht2 := hide (text_num l.burst (by omega))
  unfold wordsT limV
  generalize Sl.classW c = cw at *
  generalize Lib.decDigits l.rate = d1 at *
  generalize Lib.decDigits l.burst = d2 at *
  obtain ⟨s1, e1, k1⟩ := cat_ex ⟨#[32]⟩ ⟨cw.toArray⟩ [32] cw rfl rfl (by simp; omega)
  obtain ⟨s2, e2, k2⟩ := cat_ex s1 ⟨#[32]⟩ _ [32] e1 rfl (by simp; omega)
  obtain ⟨s3, e3, k3⟩ := cat_ex s2 ⟨d1.toArray⟩ _ d1 e2 rfl (by simp; omega)
  obtain ⟨s4, e4, k4⟩ := cat_ex s3 ⟨#[32]⟩ _ [32] e3 rfl (by simp; omega)
  obtain ⟨s5, e5, k5⟩ := cat_ex s4 ⟨d2.toArray⟩ _ d2 e4 rfl (by simp; omega)
  obtain ⟨s6, e6, k6⟩ := cat_ex s5 ⟨#[10]⟩ _ [10] e5 rfl (by simp; omega)
  rw [← e6]
  have E6 := hide e6
  clear e1 e2 e3 e4 e5 e6
  go_enter Tryz.func42, Tryz.ntmps42
  go_wp2_with fail
  go_region_held3 (fun w' => w'.cell? ⟨w.heap.size, 0, none⟩ = some (.int .i64 l.rate) ∧ w'.cell? ⟨w.heap.size, 1, none⟩ = some (.int .i64 l.burst)) (go_keep)
    (first
      | (go_at_call 23; refine (unhide hcl _).mono ?_; rintro e w1 ⟨rfl, rfl⟩)
      | (go_at_call_of 53 (Value.int IntKind.i64 (l.rate : Int)); refine (unhide ht1 _).mono ?_; rintro e w2 ⟨rfl, hb2⟩; obtain ⟨x0, x1, -, -, -⟩ := Two.keep (W := (w.alloc (.cells #[.int .i64 l.rate, .int .i64 l.burst] 27)).drew) (Two.made w (.int .i64 l.rate) (.int .i64 l.burst) 27) hb2 (by simp); have HB2 := hide hb2; clear hb2)
      | (go_at_call_of 53 (Value.int IntKind.i64 (l.burst : Int)); refine (unhide ht2 _).mono ?_; rintro e w3 ⟨rfl, hb3⟩; have HB3 := hide hb3; obtain ⟨y0, y1⟩ : w3.cell? ⟨w.heap.size, 0, none⟩ = some (.int .i64 l.rate) ∧ w3.cell? ⟨w.heap.size, 1, none⟩ = some (.int .i64 l.burst) := ⟨(hb3.cell (p := ⟨w.heap.size, 0, none⟩) (cell_lt x0)).trans x0, (hb3.cell (p := ⟨w.heap.size, 1, none⟩) (cell_lt x1)).trans x1⟩; clear hb3))
  go_wp2
  go_ret
  exact ⟨rfl, (Below.alloc1 w _).drew.trans (((unhide HB2).mono (by simp)).trans ((unhide HB3).mono (by have := (unhide HB2).size; simp at this; omega)))⟩

end Go.Proofs.YthmhfilkgggagaaGreatDoor
