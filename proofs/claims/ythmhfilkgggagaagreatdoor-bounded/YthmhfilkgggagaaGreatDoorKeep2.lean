/-
  Numbers in decimals, and the end of a line, as the statement Told writes them.
-/
import Derived.Test.YthmhfilkgggagaaGreatDoorKeep
import Derived.Laws.IdiomStrings
namespace Go.Proofs.YthmhfilkgggagaaGreatDoor
open Go.RowKit Go.Maps Go.Sort

/-- One byte made into a string. -/
theorem one_string (w : World) (x : Nat) (hx : x < 256) :
    (convert 165 9 (.slice (some ⟨w.heap.size, 0, none⟩) 1 1)).run Tryz.prog (w.alloc (.cells #[.int .u8 x] 5)) = .ok (.string ⟨#[UInt8.ofNat x]⟩) (w.alloc (.cells #[.int .u8 x] 5)) := by
  refine run_convert_bytes_back _ _ _ 5 ⟨w.heap.size, 0, none⟩ 1 [UInt8.ofNat x] Tryz.underlying165 Tryz.underlying5 Tryz.underlying9 ?_
  intro j hj
  have : j = 0 := by simp at hj; omega
  subst this
  rw [addr_add, World.cell?_alloc_new]
  simp
  omega

theorem last_digit (w : World) (n : Nat) :
    (convert 165 9 (.slice (some ⟨w.heap.size, 0, none⟩) 1 1)).run Tryz.prog (w.alloc (.cells #[.int .u8 (48 + (n : Int) % 10)] 5)) = .ok (.string ⟨#[UInt8.ofNat (48 + n % 10)]⟩) (w.alloc (.cells #[.int .u8 (48 + (n : Int) % 10)] 5)) := by
  have h := one_string w (48 + n % 10) (by omega)
  have e : ((48 + n % 10 : Nat) : Int) = 48 + (n : Int) % 10 := by omega
  rw [e] at h
  exact h

theorem cat_arr (a b : List UInt8) : (⟨a.toArray⟩ : ByteArray) ++ (⟨b.toArray⟩ : ByteArray) = ⟨(a ++ b).toArray⟩ := by
  ext1; simp

theorem cat_ret (a b : List UInt8) (v : Value) (h : v = .string ((⟨a.toArray⟩ : ByteArray) ++ (⟨b.toArray⟩ : ByteArray))) : Ending.returned v = .returned (.string ⟨(a ++ b).toArray⟩) := by
  rw [h, cat_arr]

set_option maxRecDepth 100000 in
set_option maxHeartbeats 1000000 in
theorem text_num (n : Nat) (hn : n ≤ 9223372036854775807) : ∀ (w : World),
    Calls Tryz.prog 53 #[.int .i64 n] w fun e w' => e = .returned (.string ⟨(Lib.decDigits n).toArray⟩) ∧ Below w.heap.size w w' := by
  induction n using Nat.strongRecOn with
  | _ n ih =>
    intro w
    have hcv := last_digit w n
    generalize hdg : UInt8.ofNat (48 + n % 10) = dg at *
    by_cases h10 : n < 10
    · have hd : Lib.decDigits n = [dg] := by rw [← hdg, Lib.decDigits_one h10, Nat.mod_eq_of_lt h10]
      rw [hd]
      clear ih hd hdg
      go_enter Tryz.func53, Tryz.ntmps53
      go_wp2
      go_ret
      exact ⟨rfl, Below.alloc1 _ _⟩
    · have hd : Lib.decDigits n = Lib.decDigits (n / 10) ++ [dg] := by rw [← hdg, Lib.decDigits, dif_neg h10]
      have hih := ih (n / 10) (by omega) (by omega)
      have hq : ((n / 10 : Nat) : Int) = (n : Int) / 10 := by omega
      have hl : (Lib.decDigits (n / 10)).length ≤ 20 := dec_len (n / 10) 19 (by omega)
      rw [hq] at hih
      have HIH := hide hih; have HD := hide hd
      clear ih hd hih hq hdg
      go_enter Tryz.func53, Tryz.ntmps53
      go_wp2_with fail
      refine (unhide HIH _).mono ?_
      rintro e w2 ⟨rfl, hb⟩
      go_wp2
      go_ret
      rw [unhide HD]
      exact ⟨cat_ret _ _ _ rfl, (Below.alloc1 _ _).trans (hb.mono (by simp))⟩

/-- Two strings, one behind the other. -/
theorem cat_ex (x y : ByteArray) (a b : List UInt8) (hx : x = ⟨a.toArray⟩) (hy : y = ⟨b.toArray⟩) (h : a.length + b.length ≤ 1000000000) : ∃ s : ByteArray, s = ⟨(a ++ b).toArray⟩ ∧ ∀ w, (Op.stringOp .add x y).run Tryz.prog w = .ok (.string s) w := by
  refine ⟨_, rfl, fun w => ?_⟩
  subst hx; subst hy
  have h2 := run_string_add_sum (P := Tryz.prog) (w := w) ⟨a.toArray⟩ ⟨b.toArray⟩ (by show a.toArray.size + b.toArray.size ≤ _; simp; omega)
  rw [cat_arr] at h2
  exact h2

theorem ret_str {a b : ByteArray} (h : a = b) : Ending.returned (.string a) = .returned (.string b) := by rw [h]

/-- A limit, as a line ends. -/
def wordsT (c : Nat) (l : Sl.Lim) : List UInt8 := [32] ++ Sl.classW c ++ [32] ++ Lib.decDigits l.rate ++ [32] ++ Lib.decDigits l.burst ++ [10]

set_option maxRecDepth 100000 in
set_option maxHeartbeats 1000000 in
theorem words_any (c : Nat) (l : Sl.Lim) (w : World) (hc : c < 2) (hr : l.rate ≤ 1000000) (hu : l.burst ≤ 1000000) :
    Calls Tryz.prog 42 #[.int .i64 c, limV l] w fun e w' => e = .returned (.string ⟨(wordsT c l).toArray⟩) ∧ Below w.heap.size w w' := by
  have l1 : (Lib.decDigits l.rate).length ≤ 7 := dec_len l.rate 6 (by omega)
  have l2 : (Lib.decDigits l.burst).length ≤ 7 := dec_len l.burst 6 (by omega)
  have l3 : (Sl.classW c).length ≤ 6 := by unfold Sl.classW; split <;> simp [Sl.ingestW, Sl.queryW]
  have hcl := hide (fun W => class_any c W hc)
  have ht1 := hide (text_num l.rate (by omega))
  have ht2 := hide (text_num l.burst (by omega))
  unfold wordsT limV
  generalize Sl.classW c = cw at *
  generalize Lib.decDigits l.rate = d1 at *
  generalize Lib.decDigits l.burst = d2 at *
  obtain ⟨s1, e1, k1⟩ := cat_ex ⟨#[32]⟩ ⟨cw.toArray⟩ [32] cw rfl rfl (by simp; omega)
  obtain ⟨s2, e2, k2⟩ := cat_ex s1 ⟨#[32]⟩ _ [32] e1 rfl (by simp; omega)
  obtain ⟨s3, e3, k3⟩ := cat_ex s2 ⟨d1.toArray⟩ _ d1 e2 rfl (by simp; omega)
  obtain ⟨s4, e4, k4⟩ := cat_ex s3 ⟨#[32]⟩ _ [32] e3 rfl (by simp; omega)
  obtain ⟨s5, e5, k5⟩ := cat_ex s4 ⟨d2.toArray⟩ _ d2 e4 rfl (by simp; omega)
  obtain ⟨s6, e6, k6⟩ := cat_ex s5 ⟨#[10]⟩ _ [10] e5 rfl (by simp; omega)
  rw [← e6]
  have E6 := hide e6
  clear e1 e2 e3 e4 e5 e6
  go_enter Tryz.func42, Tryz.ntmps42
  go_wp2_with fail
  go_region_held3 (fun w' => w'.cell? ⟨w.heap.size, 0, none⟩ = some (.int .i64 l.rate) ∧ w'.cell? ⟨w.heap.size, 1, none⟩ = some (.int .i64 l.burst)) (go_keep)
    (first
      | (go_at_call 23; refine (unhide hcl _).mono ?_; rintro e w1 ⟨rfl, rfl⟩)
      | (go_at_call_of 53 (Value.int IntKind.i64 (l.rate : Int)); refine (unhide ht1 _).mono ?_; rintro e w2 ⟨rfl, hb2⟩; obtain ⟨x0, x1, -, -, -⟩ := Two.keep (W := (w.alloc (.cells #[.int .i64 l.rate, .int .i64 l.burst] 27)).drew) (Two.made w (.int .i64 l.rate) (.int .i64 l.burst) 27) hb2 (by simp); have HB2 := hide hb2; clear hb2)
      | (go_at_call_of 53 (Value.int IntKind.i64 (l.burst : Int)); refine (unhide ht2 _).mono ?_; rintro e w3 ⟨rfl, hb3⟩; have HB3 := hide hb3; obtain ⟨y0, y1⟩ : w3.cell? ⟨w.heap.size, 0, none⟩ = some (.int .i64 l.rate) ∧ w3.cell? ⟨w.heap.size, 1, none⟩ = some (.int .i64 l.burst) := ⟨(hb3.cell (p := ⟨w.heap.size, 0, none⟩) (cell_lt x0)).trans x0, (hb3.cell (p := ⟨w.heap.size, 1, none⟩) (cell_lt x1)).trans x1⟩; clear hb3))
  go_wp2
  go_ret
  exact ⟨rfl, (Below.alloc1 w _).drew.trans (((unhide HB2).mono (by simp)).trans ((unhide HB3).mono (by have := (unhide HB2).size; simp at this; omega)))⟩

end Go.Proofs.YthmhfilkgggagaaGreatDoor
