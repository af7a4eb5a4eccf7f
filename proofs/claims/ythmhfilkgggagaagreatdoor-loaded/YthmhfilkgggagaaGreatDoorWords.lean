/-
  The words of the program (package words): what ReadClass, IsName, ReadNumber answer, at every string, and that they turn nothing that was there.
-/
import Derived.Test.YthmhfilkgggagaaGreatDoorProg
import Derived.Test.YthmhfilkgggagaaGreatDoorPlA
import Derived.WalkKit
import Derived.WalkSpells
import Derived.WalkLawsBesides
import Derived.Lib.OthersKept
namespace Go.Proofs.YthmhfilkgggagaaGreatDoor
open Go.RowKit

theorem hide {p : Prop} (h : p) : Hid p := h
theorem unhide {p : Prop} (h : Hid p) : p := h

theorem width_pos (s : ByteArray) (pos : Nat) (h : pos < s.size) : 1 ≤ (Utf8.decode s pos).2 := by
  by_cases ha : (s[pos]'h).toNat < 128
  · rw [decode_ascii s pos h ha]
    exact Nat.le_refl _
  · exact (decode_high s pos h (by omega)).2

theorem ret_bool {a b : Bool} (h : a = b) : Ending.returned (.bool a) = .returned (.bool b) := by rw [h]

set_option maxHeartbeats 400000 in
theorem isNameRune_any (r : Int) (w : World) :
    Calls Tryz.prog 108 #[.int .i32 r] w fun e w' => e = .returned (.bool (Sl.nameRune r)) ∧ w' = w := by
  go_enter Tryz.func108, Tryz.ntmps108
  go_wp2
  all_goals
    go_ret
    refine ⟨ret_bool ?_, rfl⟩
    rw [Bool.eq_iff_iff]
    simp only [beq_iff_eq, beq_eq_false_iff_ne, ne_eq, decide_eq_true_eq] at *
    simp [Sl.nameRune] <;> omega

set_option maxHeartbeats 400000 in
theorem readClass_any (s : ByteArray) (w : World) :
    Calls Tryz.prog 71 #[.string s] w fun e w' => e = .returned (.tuple #[.int .i64 ((Sl.classOf s.data.toList).getD 0 : Nat), .bool (Sl.classOf s.data.toList).isSome]) ∧ w' = w := by
  by_cases h1 : s.data.toList = Sl.ingestW
  · have t1 : (s.toList == [105, 110, 103, 101, 115, 116]) = true := by rw [Sl.str_eql]; exact decide_eq_true h1
    have hc : Sl.classOf s.data.toList = some 0 := by simp [Sl.classOf, h1]
    rw [hc]
    clear hc h1
    go_enter Tryz.func71, Tryz.ntmps71
    go_wp2
    go_ret2
    exact ⟨rfl, rfl⟩
  · have t1 : (s.toList == [105, 110, 103, 101, 115, 116]) = false := by rw [Sl.str_eql]; exact decide_eq_false h1
    by_cases h2 : s.data.toList = Sl.queryW
    · have t2 : (s.toList == [113, 117, 101, 114, 121]) = true := by rw [Sl.str_eql]; exact decide_eq_true h2
      have hc : Sl.classOf s.data.toList = some 1 := by unfold Sl.classOf; rw [if_neg h1, if_pos h2]
      rw [hc]
      clear hc h1 h2
      go_enter Tryz.func71, Tryz.ntmps71
      go_wp2
      go_ret2
      exact ⟨rfl, rfl⟩
    · have t2 : (s.toList == [113, 117, 101, 114, 121]) = false := by rw [Sl.str_eql]; exact decide_eq_false h2
      have hc : Sl.classOf s.data.toList = none := by unfold Sl.classOf; rw [if_neg h1, if_neg h2]
      rw [hc]
      clear hc h1 h2
      go_enter Tryz.func71, Tryz.ntmps71
      go_wp2
      go_ret2
      exact ⟨rfl, rfl⟩

set_option maxHeartbeats 400000 in
theorem isName_any (s : ByteArray) (w : World) :
    Calls Tryz.prog 72 #[.string s] w fun e w' => e = .returned (.bool (Sl.isName s.data.toList)) ∧ Below w.heap.size w w' := by
  go_enter Tryz.func72, Tryz.ntmps72
  go_wp2
  go_loopw [3] (fun c wr => ∃ (pos k : Nat), c = .int .i64 k ∧ k ≤ 8 ∧ wr.heap[w.heap.size]? = some (.stringIter s pos) ∧ Below w.heap.size w wr ∧ Sl.nameCont k (s.data.toList.drop pos) = Sl.isName s.data.toList) (fun _ wr => s.size - wr.iterPos w.heap.size)
  case atStart =>
    refine ⟨0, 0, rfl, by omega, ?_, (Below.refl _ w).alloc (Nat.le_refl _) _, rfl⟩
    have := World.iter_heap w s 0
    simpa using this
  case round =>
    obtain ⟨pos, k, rfl, hk, hit, hbw, hc⟩ := hrel
    have HC := hide hc; clear hc
    have hsz : w.heap.size < wr.heap.size := (Array.getElem?_eq_some_iff.1 hit).1
    by_cases hp : pos < s.size
    · have hnx : ∀ ty, (Instr.next (.pointer (some ⟨w.heap.size, 0, none⟩)) true ty).run Tryz.prog wr = _ := fun ty => Lib.run_next_any_at wr w.heap.size s pos ty hit hp
      have hwd := width_pos s pos hp
      have hd1 := decode_le s pos
      have hit2 := Lib.iterAt_heap wr w.heap.size s pos (pos + (Utf8.decode s pos).2) hit
      have hbw2 := Lib.below_iterAt hbw (k := w.heap.size) (by omega) s (pos + (Utf8.decode s pos).2)
      have hne : s.data.toList.drop pos ≠ [] := by rw [Sl.drop_cons s pos hp]; simp
      by_cases h8 : k < 8
      · cases hr : Sl.nameRune ((Utf8.decode s pos).1 : Int) with
        | true =>
          have HS := hide (Sl.rune_step s pos hp k hr)
          go_wp2_with (go_at_call 108; refine (isNameRune_any _ _).mono ?_; rintro e w' ⟨rfl, rfl⟩)
          go_roundw
          case rel =>
            exact ⟨pos + (Utf8.decode s pos).2, k + 1, by go_num, by omega, hit2, hbw2, by rw [← unhide HS]; exact unhide HC⟩
          case measure =>
            simp only [World.iterPos, hit2, hit]
            omega
        | false =>
          have HS := hide (Sl.rune_stop s pos hp k hr)
          go_wp2_with (go_at_call 108; refine (isNameRune_any _ _).mono ?_; rintro e w' ⟨rfl, rfl⟩)
          go_ret
          exact ⟨ret_bool (by rw [← unhide HC, unhide HS]), hbw2⟩
      · have HS := hide (Sl.nameCont_over k (by omega) _ hne)
        go_wp2
        go_ret
        exact ⟨ret_bool (by rw [← unhide HC, unhide HS]), hbw2⟩
    · have hnx : ∀ ty, (Instr.next (.pointer (some ⟨w.heap.size, 0, none⟩)) true ty).run Tryz.prog wr = _ := fun ty => Lib.run_next_end_at wr w.heap.size s pos ty hit hp
      have HS := hide (Sl.nameCont_end k (s.data.toList.drop pos) (List.drop_eq_nil_of_le (by simp; omega)))
      go_wp2
      go_ret
      exact ⟨ret_bool (by rw [← unhide HC, unhide HS]; rw [Bool.eq_iff_iff]; simp; omega), hbw⟩

set_option maxHeartbeats 400000 in
theorem readNumber_any (s : ByteArray) (most : Int) (w : World) :
    Calls Tryz.prog 157 #[.string s, .int .i64 most] w fun e w' => e = .returned (.tuple #[.int .i64 (Sl.number most s.data.toList : Nat), .bool (decide (0 < Sl.number most s.data.toList))]) ∧ Below w.heap.size w w' := by
  by_cases h7 : s.size ≤ 7
  · go_enter Tryz.func157, Tryz.ntmps157
    go_wp2
    go_loopw [6] (fun c wr => ∃ (pos n : Nat), c = .int .i64 n ∧ n + 1 ≤ 10 ^ pos ∧ pos ≤ s.size ∧ wr.heap[w.heap.size]? = some (.stringIter s pos) ∧ Below w.heap.size w wr ∧ Sl.numTo n (s.data.toList.drop pos) = Sl.numTo 0 s.data.toList) (fun _ wr => s.size - wr.iterPos w.heap.size)
    case atStart =>
      refine ⟨0, 0, rfl, by omega, by omega, ?_, (Below.refl _ w).alloc (Nat.le_refl _) _, rfl⟩
      have := World.iter_heap w s 0
      simpa using this
    case round =>
      obtain ⟨pos, n, rfl, hn, hps, hit, hbw, hc⟩ := hrel
      have HC := hide hc; clear hc
      have h10 : n + 1 ≤ 10 ^ 7 := Nat.le_trans hn (Nat.pow_le_pow_right (by omega) (by omega))
      have hsz : w.heap.size < wr.heap.size := (Array.getElem?_eq_some_iff.1 hit).1
      have hlen : ¬ 7 < s.data.toList.length := by simp; omega
      by_cases hp : pos < s.size
      · have hnx : ∀ ty, (Instr.next (.pointer (some ⟨w.heap.size, 0, none⟩)) true ty).run Tryz.prog wr = _ := fun ty => Lib.run_next_any_at wr w.heap.size s pos ty hit hp
        have hwd := width_pos s pos hp
        have hd1 := decode_le s pos
        have hit2 := Lib.iterAt_heap wr w.heap.size s pos (pos + (Utf8.decode s pos).2) hit
        have hbw2 := Lib.below_iterAt hbw (k := w.heap.size) (by omega) s (pos + (Utf8.decode s pos).2)
        by_cases hg : 48 ≤ ((Utf8.decode s pos).1 : Int) ∧ ((Utf8.decode s pos).1 : Int) ≤ 57
        · obtain ⟨g1, g2⟩ := hg
          obtain ⟨hd, hdc⟩ := Sl.rune_digit s pos hp g1 g2
          have HS := hide (show Sl.numTo n (s.data.toList.drop pos) = Sl.numTo (n * 10 + (s[pos].toNat - 48)) (s.data.toList.drop (pos + 1)) from by rw [Sl.drop_cons s pos hp]; simp [Sl.numTo, hdc])
          have hp10 : 10 ^ (pos + 1) = 10 ^ pos * 10 := Nat.pow_succ ..
          have e1 : (Utf8.decode s pos).1 = s[pos].toNat := by rw [hd]
          have e2 : (Utf8.decode s pos).2 = 1 := by rw [hd]
          have E1 := hide e1; have E2 := hide e2; have P10 := hide hp10
          clear hd hdc e1 e2 hp10
          go_wp2
          go_roundw
          case rel =>
            refine ⟨pos + (Utf8.decode s pos).2, n * 10 + (s[pos].toNat - 48), ?_, ?_, ?_, hit2, hbw2, ?_⟩
            · have := unhide E1
              congr 1
              omega
            · have a1 := unhide E1; have a2 := unhide E2; have a3 := unhide P10
              rw [a2, a3]; omega
            · have a2 := unhide E2; omega
            · rw [unhide E2, ← unhide HS]; exact unhide HC
          case measure =>
            simp only [World.iterPos, hit2, hit]
            omega
        · have hdc := Sl.rune_nodigit s pos hp hg
          have hz : Sl.number most s.data.toList = 0 := by
            have : Sl.numTo 0 s.data.toList = none := by rw [← unhide HC, Sl.drop_cons s pos hp]; simp [Sl.numTo, hdc]
            unfold Sl.number; rw [if_neg hlen, this]
          have HZ := hide hz; clear hz hdc
          have hg2 : ((Utf8.decode s pos).1 : Int) < 48 ∨ 57 < ((Utf8.decode s pos).1 : Int) := by omega
          clear hg
          rcases hg2 with hg | hg
          all_goals
            go_wp2
            go_ret2
            rw [unhide HZ]; exact ⟨rfl, hbw2⟩
      · have hnx : ∀ ty, (Instr.next (.pointer (some ⟨w.heap.size, 0, none⟩)) true ty).run Tryz.prog wr = _ := fun ty => Lib.run_next_end_at wr w.heap.size s pos ty hit hp
        have hz : Sl.numTo 0 s.data.toList = some n := by rw [← unhide HC, List.drop_eq_nil_of_le (by simp; omega)]; rfl
        by_cases hm : (n : Int) ≤ most
        · have hv : Sl.number most s.data.toList = n := by unfold Sl.number; rw [if_neg hlen, hz]; exact if_pos hm
          have HV := hide hv; clear hv hz
          by_cases h0 : n = 0
          · subst h0
            go_wp2
            go_ret2
            rw [unhide HV]; exact ⟨rfl, hbw⟩
          · have h1 : 1 ≤ n := by omega
            clear h0
            go_wp2
            go_ret2
            rw [unhide HV, decide_eq_true (show 0 < n from h1)]; exact ⟨rfl, hbw⟩
        · have hv : Sl.number most s.data.toList = 0 := by unfold Sl.number; rw [if_neg hlen, hz]; exact if_neg hm
          have HV := hide hv; clear hv hz
          have hm2 : most < (n : Int) := by omega
          by_cases h0 : n < 1
          all_goals
            go_wp2
            go_ret2
            rw [unhide HV]; exact ⟨rfl, hbw⟩
  · have hn : Sl.number most s.data.toList = 0 := by unfold Sl.number; rw [if_pos (by simp; omega)]
    rw [hn]; clear hn
    go_enter Tryz.func157, Tryz.ntmps157
    go_wp2
    go_ret2
    exact ⟨rfl, Below.refl _ _⟩

end Go.Proofs.YthmhfilkgggagaaGreatDoor
