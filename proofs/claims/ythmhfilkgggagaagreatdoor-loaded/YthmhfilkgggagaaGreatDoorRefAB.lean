/-
  The document's answer, its small words: class, name, figure.
  The document's answer: words of a line.
-/
import Derived.Test.YthmhfilkgggagaaGreatDoorTurned
namespace Go.Proofs.YthmhfilkgggagaaGreatDoor
open Go.RowKit Go.Maps Go.Sort

theorem size_arr (l : List UInt8) : (⟨l.toArray⟩ : ByteArray).size = l.length := by show l.toArray.size = _; simp

def classI (l : List UInt8) : Int := match Sl.classOf l with
  | some c => c
  | none => -1

theorem refClass_any (l : List UInt8) (w : World) :
    Calls Tryz.prog 142 #[.string ⟨l.toArray⟩] w fun e w' => e = .returned (.int .i64 (classI l)) ∧ w' = w := by
  by_cases h1 : l = Sl.ingestW
  · subst h1
    go_enter Tryz.func142, Tryz.ntmps142
    go_wp2
    go_ret
    exact ⟨rfl, rfl⟩
  · by_cases h2 : l = Sl.queryW
    · subst h2
      go_enter Tryz.func142, Tryz.ntmps142
      go_wp2
      go_ret
      exact ⟨rfl, rfl⟩
    · have e : classI l = -1 := by unfold classI Sl.classOf; rw [if_neg h1, if_neg h2]
      rw [e]
      obtain ⟨S, hS⟩ : ∃ S : ByteArray, S = ⟨l.toArray⟩ := ⟨_, rfl⟩
      rw [← hS]
      have k1 : (S.toList == [105, 110, 103, 101, 115, 116]) = false := by rw [Sl.str_eql, hS]; simpa [Sl.ingestW] using h1
      have k2 : (S.toList == [113, 117, 101, 114, 121]) = false := by rw [Sl.str_eql, hS]; simpa [Sl.queryW] using h2
      clear hS e h1 h2
      go_enter Tryz.func142, Tryz.ntmps142
      go_wp2
      go_ret
      exact ⟨rfl, rfl⟩


theorem drop_at (l : List UInt8) (k : Nat) (b : UInt8) (h : l[k]? = some b) : l.drop k = b :: l.drop (k + 1) := by
  obtain ⟨hk, rfl⟩ := List.getElem?_eq_some_iff.1 h
  exact List.drop_eq_getElem_cons hk

/-- What stands at a place of a name, and behind it. -/
theorem name_case (l : List UInt8) (k n : Nat) (hk : k < l.length) : ∃ b : Nat, b < 256 ∧ (∀ S : ByteArray, S = ⟨l.toArray⟩ → ∀ w, (Instr.index 9 (.string S) (.int .i64 k)).run Tryz.prog w = .ok (.int .u8 b) w) ∧
    (((97 ≤ b ∧ b ≤ 122) ∨ (48 ≤ b ∧ b ≤ 57) ∨ b = 45) ∧ Sl.nameCont n (l.drop k) = Sl.nameCont (n + 1) (l.drop (k + 1)) ∨
     ((b < 45 ∨ (45 < b ∧ b < 48) ∨ (57 < b ∧ b < 97) ∨ (122 < b)) ∧
       ((k + 1 = l.length ∧ Sl.nameCont n (l.drop k) = false) ∨
        (k + 1 < l.length ∧ ∃ d : Nat, d < 256 ∧ (∀ S : ByteArray, S = ⟨l.toArray⟩ → ∀ w, (Instr.index 9 (.string S) (.int .i64 ((k : Int) + 1))).run Tryz.prog w = .ok (.int .u8 d) w) ∧
          (((b = 206 ∧ 177 ≤ d ∧ d ≤ 191) ∨ (b = 207 ∧ 128 ≤ d ∧ d ≤ 137)) ∧ Sl.nameCont n (l.drop k) = Sl.nameCont (n + 1) (l.drop (k + 2)) ∨
           ((b ≠ 206 ∧ b ≠ 207) ∨ (b = 206 ∧ (d < 177 ∨ 191 < d)) ∨ (b = 207 ∧ (d < 128 ∨ 137 < d))) ∧ Sl.nameCont n (l.drop k) = false))))) := by
  obtain ⟨c, hc⟩ : ∃ c, l[k]? = some c := ⟨_, List.getElem?_eq_getElem hk⟩
  have hcb := Sl.u8lt c
  refine ⟨c.toNat, hcb, fun S hS w => idx_ex S l hS _ k c rfl hc w, ?_⟩
  rw [drop_at l k c hc]
  by_cases hp : Sl.plainC c = true
  · left
    refine ⟨by simp [Sl.plainC] at hp; omega, Sl.nameCont_step _ _ _ (Sl.nameLen_plain _ _ hp)⟩
  · have hp' : Sl.plainC c = false := by simpa using hp
    right
    refine ⟨by simp [Sl.plainC] at hp'; omega, ?_⟩
    by_cases hk1 : k + 1 < l.length
    · right
      obtain ⟨d, hd⟩ : ∃ d, l[k + 1]? = some d := ⟨_, List.getElem?_eq_getElem hk1⟩
      have hdb := Sl.u8lt d
      refine ⟨hk1, d.toNat, hdb, fun S hS w => idx_ex S l hS _ (k + 1) d (by omega) hd w, ?_⟩
      rw [drop_at l (k + 1) d hd]
      by_cases g : Sl.greekC c d = true
      · left
        exact ⟨by simp [Sl.greekC] at g; omega, Sl.nameCont_step _ _ _ (Sl.nameLen_greek _ _ _ hp' g)⟩
      · right
        have g' : Sl.greekC c d = false := by simpa using g
        refine ⟨by simp [Sl.greekC] at g'; omega, ?_⟩
        unfold Sl.nameCont
        rw [Sl.nameLen_none c _ hp' (fun d' r' e => by cases e; exact g')]
    · left
      have e : l.drop (k + 1) = [] := List.drop_eq_nil_of_le (by omega)
      refine ⟨by omega, ?_⟩
      rw [e]
      unfold Sl.nameCont
      rw [Sl.nameLen_none c _ hp' (fun d' r' e => by cases e)]

set_option maxRecDepth 100000 in
set_option maxHeartbeats 4000000 in
theorem refName_any (l : List UInt8) (w : World) (hl : l.length ≤ 281474976710656) :
    Calls Tryz.prog 143 #[.string ⟨l.toArray⟩] w fun e w' => e = .returned (.bool (Sl.isName l)) ∧ w' = w := by
  have hz := size_arr l
  obtain ⟨S, hS⟩ : ∃ S : ByteArray, S = ⟨l.toArray⟩ := ⟨_, rfl⟩
  rw [← hS] at hz ⊢
  have HS := hide hS
  obtain ⟨R, hR⟩ : ∃ R, R = Sl.isName l := ⟨_, rfl⟩
  rw [← hR]
  have HR := hide hR
  clear hS hR
  go_enter Tryz.func143, Tryz.ntmps143
  go_wp2_with fail
  go_loopw [3, 4] (fun vn vk wr => wr = w ∧ ∃ n k : Nat, n ≤ k ∧ k ≤ l.length ∧ vn = .int .i64 n ∧ vk = .int .i64 k ∧ Sl.nameCont n (l.drop k) = R) (fun _ vk _ => l.length - (intOf vk).toNat)
  case atStart => exact ⟨rfl, 0, 0, Nat.le_refl _, Nat.zero_le _, rfl, rfl, by rw [unhide HR]; rfl⟩
  case round =>
    obtain ⟨rfl, n, k, hnk, hk, rfl, rfl, hc⟩ := hrel
    by_cases hkl : k < l.length
    · obtain ⟨b, hb, hix, hway⟩ := name_case l k n hkl
      have hi1 := hix S (unhide HS)
      have hki : (k : Int) < (S.size : Int) := by omega
      clear hix
      rcases hway with ⟨hp, he⟩ | ⟨hnp, hway⟩
      · have HC : Hid (Sl.nameCont (n + 1) (l.drop (k + 1)) = R) := hide (by rw [← he]; exact hc)
        clear hc he
        rcases hp with hp | hp | hp
        · have q1 : (97 : Int) ≤ b := by omega
          have q2 : (b : Int) ≤ 122 := by omega
          go_wp2
          go_roundw
          case rel => exact ⟨trivial, n + 1, k + 1, by omega, by omega, by go_num, by go_num, unhide HC⟩
          case measure => simp [intOf]; omega
        · have q1 : (48 : Int) ≤ b := by omega
          have q2 : (b : Int) ≤ 57 := by omega
          go_wp2
          go_roundw
          case rel => exact ⟨trivial, n + 1, k + 1, by omega, by omega, by go_num, by go_num, unhide HC⟩
          case measure => simp [intOf]; omega
        · subst hp
          go_wp2
          go_roundw
          case rel => exact ⟨trivial, n + 1, k + 1, by omega, by omega, by go_num, by go_num, unhide HC⟩
          case measure => simp [intOf]; omega
      · rcases hway with ⟨hk1, he⟩ | ⟨hk1, d, hd, hix2, hway⟩
        · have HF : Hid (R = false) := hide (by rw [← hc]; exact he)
          have hki1 : ¬ (k : Int) + 1 < (S.size : Int) := by omega
          clear hc he
          have e45 : ((b : Int) == 45) = false := by rw [beq_eq_false_iff_ne]; omega
          rcases hnp with hp | ⟨hp, hp2⟩ | ⟨hp, hp2⟩ | hp
          · go_wp2
            go_ret
            exact ⟨ret_bool (unhide HF).symm, rfl⟩
          · go_wp2
            go_ret
            exact ⟨ret_bool (unhide HF).symm, rfl⟩
          · have q57 : ¬ (b : Int) ≤ 57 := by omega
            go_wp2
            go_ret
            exact ⟨ret_bool (unhide HF).symm, rfl⟩
          · have q57 : ¬ (b : Int) ≤ 57 := by omega
            have q122 : ¬ (b : Int) ≤ 122 := by omega
            go_wp2
            go_ret
            exact ⟨ret_bool (unhide HF).symm, rfl⟩
        · have hi2 := hix2 S (unhide HS)
          have hki1 : (k : Int) + 1 < (S.size : Int) := by omega
          clear hix2
          rcases hway with ⟨hg, he⟩ | ⟨hg, he⟩
          · have HC : Hid (Sl.nameCont (n + 1) (l.drop (k + 2)) = R) := hide (by rw [← he]; exact hc)
            clear hc he hnp
            rcases hg with ⟨rfl, h1, h2⟩ | ⟨rfl, h1, h2⟩
            all_goals
              go_wp2
              go_roundw
              case rel => exact ⟨trivial, n + 1, k + 2, by omega, by omega, by go_num, by go_num, unhide HC⟩
              case measure => simp [intOf]; omega
          · have HF : Hid (R = false) := hide (by rw [← hc]; exact he)
            clear hc he
            rcases hg with ⟨hg1, hg2⟩ | ⟨rfl, hg⟩ | ⟨rfl, hg⟩
            · have e1 : ((b : Int) == 206) = false := by rw [beq_eq_false_iff_ne]; omega
              have e2 : ((b : Int) == 207) = false := by rw [beq_eq_false_iff_ne]; omega
              have e45 : ((b : Int) == 45) = false := by rw [beq_eq_false_iff_ne]; omega
              rcases hnp with hp | ⟨hp, hp2⟩ | ⟨hp, hp2⟩ | hp
              · go_wp2
                go_ret
                exact ⟨ret_bool (unhide HF).symm, rfl⟩
              · go_wp2
                go_ret
                exact ⟨ret_bool (unhide HF).symm, rfl⟩
              · have q57 : ¬ (b : Int) ≤ 57 := by omega
                go_wp2
                go_ret
                exact ⟨ret_bool (unhide HF).symm, rfl⟩
              · have q57 : ¬ (b : Int) ≤ 57 := by omega
                have q122 : ¬ (b : Int) ≤ 122 := by omega
                go_wp2
                go_ret
                exact ⟨ret_bool (unhide HF).symm, rfl⟩
            · clear hnp
              rcases hg with hg | hg
              all_goals
                go_wp2
                go_ret
                exact ⟨ret_bool (unhide HF).symm, rfl⟩
            · clear hnp
              rcases hg with hg | hg
              all_goals
                go_wp2
                go_ret
                exact ⟨ret_bool (unhide HF).symm, rfl⟩
    · have hkn : ¬ (k : Int) < (S.size : Int) := by omega
      have e : l.drop k = [] := List.drop_eq_nil_of_le (by omega)
      have HF : Hid (R = decide (1 ≤ n ∧ n ≤ 8)) := hide (by rw [← hc, Sl.nameCont_end n _ e])
      clear hc e
      by_cases h1 : 1 ≤ n
      · have q1 : (1 : Int) ≤ n := by omega
        by_cases h8 : n ≤ 8
        · have q2 : (n : Int) ≤ 8 := by omega
          go_wp2
          go_ret
          exact ⟨ret_bool (by rw [unhide HF]; simp [h1, h8]), rfl⟩
        · have q2 : ¬ (n : Int) ≤ 8 := by omega
          go_wp2
          go_ret
          exact ⟨ret_bool (by rw [unhide HF]; simp [h8]), rfl⟩
      · have q1 : ¬ (1 : Int) ≤ n := by omega
        go_wp2
        go_ret
        exact ⟨ret_bool (by rw [unhide HF]; simp [h1]), rfl⟩

/-- What stands at a place of a number. -/
theorem fig_case (l : List UInt8) (k : Nat) (hk : k < l.length) : ∃ b : Nat, b < 256 ∧ (∀ S : ByteArray, S = ⟨l.toArray⟩ → ∀ w, (Instr.index 9 (.string S) (.int .i64 k)).run Tryz.prog w = .ok (.int .u8 b) w) ∧
    ((48 ≤ b ∧ b ≤ 57 ∧ ∀ n, Sl.numTo n (l.drop k) = Sl.numTo (n * 10 + (b - 48)) (l.drop (k + 1))) ∨ ((b < 48 ∨ 57 < b) ∧ ∀ n, Sl.numTo n (l.drop k) = none)) := by
  obtain ⟨c, hc⟩ : ∃ c, l[k]? = some c := ⟨_, List.getElem?_eq_getElem hk⟩
  have hcb := Sl.u8lt c
  refine ⟨c.toNat, hcb, fun S hS w => idx_ex S l hS _ k c rfl hc w, ?_⟩
  rw [drop_at l k c hc]
  by_cases hd : Sl.digC c = true
  · left
    refine ⟨by simp [Sl.digC] at hd; omega, by simp [Sl.digC] at hd; omega, fun n => ?_⟩
    simp [Sl.numTo, hd]
  · right
    refine ⟨by simp [Sl.digC] at hd; omega, fun n => ?_⟩
    simp [Sl.numTo, hd]

/-- What a number comes to, behind k of its signs, where n is what they came to (the first seven). -/
def figR (l : List UInt8) (n k : Nat) : Nat := if 7 < l.length then 0 else match Sl.numTo n (l.drop k) with
  | some m => if (m : Int) ≤ 1000000 then m else 0
  | none => 0

theorem figR_start (l : List UInt8) : figR l 0 0 = Sl.number 1000000 l := rfl

set_option maxRecDepth 100000 in
set_option maxHeartbeats 4000000 in
theorem refFigure_any (l : List UInt8) (w : World) (hl : l.length ≤ 281474976710656) :
    Calls Tryz.prog 182 #[.string ⟨l.toArray⟩] w fun e w' => e = .returned (.int .i64 (Sl.number 1000000 l : Nat)) ∧ w' = w := by
  have hz := size_arr l
  obtain ⟨S, hS⟩ : ∃ S : ByteArray, S = ⟨l.toArray⟩ := ⟨_, rfl⟩
  rw [← hS] at hz ⊢
  have HS := hide hS
  obtain ⟨R, hR⟩ : ∃ R, R = Sl.number 1000000 l := ⟨_, rfl⟩
  rw [← hR]
  have HR := hide hR
  clear hS hR
  go_enter Tryz.func182, Tryz.ntmps182
  go_wp2_with fail
  go_loopw [3, 4] (fun vn vk wr => wr = w ∧ ∃ n k : Nat, k ≤ l.length ∧ n < 10 ^ (min k 7) ∧ vn = .int .i64 n ∧ vk = .int .i64 k ∧ (figR l n k = R)) (fun _ vk _ => l.length - (intOf vk).toNat)
  case atStart => exact ⟨rfl, 0, 0, Nat.zero_le _, by simp, rfl, rfl, by rw [unhide HR]; rfl⟩
  case round =>
    obtain ⟨rfl, n, k, hk, hn, rfl, rfl, hc⟩ := hrel
    have hn7 : n < 10000000 := Nat.lt_of_lt_of_le hn (Nat.pow_le_pow_right (by omega) (by omega : min k 7 ≤ 7))
    by_cases hkl : k < l.length
    · obtain ⟨b, hb, hix, hway⟩ := fig_case l k hkl
      have hi1 := hix S (unhide HS)
      have hki : (k : Int) < (S.size : Int) := by omega
      clear hix
      rcases hway with ⟨h48, h57, he⟩ | ⟨hno, he⟩
      · have q1 : (48 : Int) ≤ b := by omega
        have q2 : (b : Int) ≤ 57 := by omega
        by_cases h7 : k < 7
        · have q3 : (k : Int) < 7 := by omega
          have HC : Hid (figR l (n * 10 + (b - 48)) (k + 1) = R ∧ n * 10 + (b - 48) < 10 ^ (min (k + 1) 7)) := hide (by
            refine ⟨by rw [← hc]; unfold figR; rw [he], ?_⟩
            have e1 : min k 7 = k := by omega
            have e2 : min (k + 1) 7 = k + 1 := by omega
            rw [e1] at hn
            rw [e2, Nat.pow_succ]
            omega)
          clear hc he hn
          go_wp2
          go_roundw
          case rel => exact ⟨trivial, n * 10 + (b - 48), k + 1, by omega, (unhide HC).2, by go_num, by go_num, (unhide HC).1⟩
          case measure => simp [intOf]; omega
        · have q3 : ¬ (k : Int) < 7 := by omega
          have HC : Hid (figR l n (k + 1) = R ∧ n < 10 ^ (min (k + 1) 7)) := hide (by
            have hl7 : 7 < l.length := by omega
            refine ⟨by rw [← hc]; unfold figR; rw [if_pos hl7, if_pos hl7], ?_⟩
            have e1 : min k 7 = 7 := by omega
            have e2 : min (k + 1) 7 = 7 := by omega
            rw [e1] at hn
            rw [e2]
            exact hn)
          clear hc he hn
          go_wp2
          go_roundw
          case rel => exact ⟨trivial, n, k + 1, by omega, (unhide HC).2, rfl, by go_num, (unhide HC).1⟩
          case measure => simp [intOf]; omega
      · have HF : Hid (R = 0) := hide (by rw [← hc]; unfold figR; rw [he]; simp)
        clear hc he hn
        rcases hno with q | q
        all_goals
          go_wp2
          go_ret
          exact ⟨ret_int (by rw [unhide HF]; rfl), rfl⟩
    · have hkn : ¬ (k : Int) < (S.size : Int) := by omega
      have e : l.drop k = [] := List.drop_eq_nil_of_le (by omega)
      have HF : Hid (R = if 7 < l.length then 0 else if (n : Int) ≤ 1000000 then n else 0) := hide (by rw [← hc]; unfold figR; rw [e]; rfl)
      clear hc e hn
      by_cases h7 : 7 < l.length
      · have q : (7 : Int) < (S.size : Int) := by omega
        go_wp2
        go_ret
        exact ⟨ret_int (by rw [unhide HF, if_pos h7]; rfl), rfl⟩
      · have q : ¬ (7 : Int) < (S.size : Int) := by omega
        by_cases hm : (n : Int) ≤ 1000000
        · have q2 : ¬ (1000000 : Int) < n := by omega
          go_wp2
          go_ret
          exact ⟨ret_int (by rw [unhide HF, if_neg h7, if_pos hm]), rfl⟩
        · have q2 : (1000000 : Int) < n := by omega
          go_wp2
          go_ret
          exact ⟨ret_int (by rw [unhide HF, if_neg h7, if_neg (by omega)]; rfl), rfl⟩

end Go.Proofs.YthmhfilkgggagaaGreatDoor

namespace Go.Proofs.YthmhfilkgggagaaGreatDoor
open Go.RowKit Go.Maps Go.Sort

def cutB (l : List UInt8) (a b : Nat) : List UInt8 := (l.drop a).take (b - a)

theorem cutB_len (l : List UInt8) (a b : Nat) (hb : b ≤ l.length) : (cutB l a b).length = b - a := by
  unfold cutB; simp; omega

theorem cutB_snoc (l : List UInt8) (a k : Nat) (x : UInt8) (ha : a ≤ k) (h : l[k]? = some x) : cutB l a (k + 1) = cutB l a k ++ [x] := by
  obtain ⟨hk, rfl⟩ := List.getElem?_eq_some_iff.1 h
  unfold cutB
  have e : k + 1 - a = (k - a) + 1 := by omega
  rw [e, List.take_succ_eq_append_getElem (by simp; omega)]
  simp [show a + (k - a) = k by omega]

theorem cutB_self (l : List UInt8) (a : Nat) : cutB l a a = [] := by unfold cutB; simp

theorem strV_snoc (l : List (List UInt8)) (x : List UInt8) : strV (l ++ [x]) = strV l ++ [.string ⟨x.toArray⟩] := by simp [strV]

set_option maxRecDepth 100000 in
set_option maxHeartbeats 4000000 in
theorem refWords_any (l : List UInt8) (w : World) (hl : l.length ≤ 2000) :
    Calls Tryz.prog 139 #[.string ⟨l.toArray⟩] w fun e w' => ∃ v, e = .returned v ∧ w'.ownsRow w.heap.size 9 1 v (Sl.fields l).length (strV (Sl.fields l)) ∧ Below w.heap.size w w' := by
  obtain ⟨i0, hi, hz0, hz1, hz2⟩ := info_parts info_str
  have hz := size_arr l
  obtain ⟨S, hS⟩ : ∃ S : ByteArray, S = ⟨l.toArray⟩ := ⟨_, rfl⟩
  rw [← hS] at hz ⊢
  have HS := hide hS
  have hfl : (Sl.fields l).length ≤ 2001 := by have := Sl.fgo_len l []; unfold Sl.fields; omega
  obtain ⟨F, hF⟩ : ∃ F, F = Sl.fields l := ⟨_, rfl⟩
  rw [← hF] at hfl ⊢
  have HF := hide hF
  clear hS hF
  go_enter Tryz.func139, Tryz.ntmps139
  go_wp2_with fail
  go_loopw [3, 4, 5] (fun v vf vk wr => ∃ (fr k : Nat) (acc : List (List UInt8)), vf = .int .i64 fr ∧ vk = .int .i64 k ∧ fr ≤ k ∧ wr.ownsRow w.heap.size 9 1 v acc.length (strV acc) ∧ Below w.heap.size w wr ∧
    ((k ≤ l.length ∧ acc ++ Sl.fgo (cutB l fr k) (l.drop k) = F) ∨ (k = l.length + 1 ∧ acc = F))) (fun _ _ vk _ => l.length + 1 - (intOf vk).toNat)
  case atStart => exact ⟨0, 0, [], rfl, rfl, Nat.le_refl _, World.ownsRow_nil _ _ _ _, Below.refl _ _, Or.inl ⟨Nat.zero_le _, by rw [unhide HF]; rfl⟩⟩
  case round =>
    obtain ⟨fr, k, acc, rfl, rfl, hfk, hown, hb, hway⟩ := hrel
    have hws := hb.size
    rcases hway with ⟨hk, hacc⟩ | ⟨hk, hacc⟩
    · have hal : acc.length ≤ 2001 := by have := congrArg List.length hacc; simp at this; omega
      have hki : (k : Int) ≤ (S.size : Int) := by omega
      by_cases hkl : k < l.length
      · obtain ⟨x, hx⟩ : ∃ x, l[k]? = some x := ⟨_, List.getElem?_eq_getElem hkl⟩
        have hix := idx_ex S l (unhide HS) (k : Int) k x rfl hx
        have hke : ((k : Int) == (S.size : Int)) = false := by rw [beq_eq_false_iff_ne]; omega
        have hcs := cutB_snoc l fr k x hfk hx
        rw [drop_at l k x hx] at hacc
        by_cases h32 : x = 32
        · have hb32 : ((x.toNat : Int) == 32) = true := by rw [h32]; rfl
          by_cases hfr : fr < k
          · have q : (fr : Int) < k := by omega
            obtain ⟨L, hL, kL⟩ := slc_ex S l (unhide HS) (fr : Int) (k : Int) fr k rfl rfl hfk hk
            have HL : Hid (L = ⟨(cutB l fr k).toArray⟩) := hide hL
            have HA : Hid ((acc ++ [cutB l fr k]) ++ Sl.fgo (cutB l (k + 1) (k + 1)) (l.drop (k + 1)) = F) := hide (by
              rw [← hacc, h32, cutB_self, Sl.fgo_blank_ne _ _ (by intro e; have := cutB_len l fr k hk; rw [e] at this; simp at this; omega)]
              simp)
            generalize hxt : x.toNat = xt at *
            clear hacc hL hcs h32 hx hxt
            go_wp2_with (at_builtin; refine wpList_append_own _ rfl (.tmp 25) (.tmp 30) 74 rfl w.heap.size 9 i0 (.string ⟨#[]⟩) 1 16 Tryz.underlying74 hi hz0 hz1 hz2 rfl (by decide) _ _ _ rfl (hown.alloc _) ⟨wr.heap.size, 0, none⟩ 1 1 [.string L] rfl rfl (cell_new_at _ _ _ _ rfl) (by intro u hu; simp at hu; subst hu; rfl) (by unfold maxLen; omega) (by omega) (by simp; omega) ?_; intro v3 w3 hown3 hgrow3 hnil3)
            go_roundw
            case rel =>
              refine ⟨k + 1, k + 1, acc ++ [cutB l fr k], by go_num, by go_num, Nat.le_refl _, ?_, ?_, Or.inl ⟨by omega, unhide HA⟩⟩
              · rw [strV_snoc, List.length_append, ← unhide HL]; exact hown3
              · exact (hb.alloc (by omega) _).grown hgrow3 (by simp; omega) (own_base hown)
            case measure => simp [intOf]; omega
          · have q : ¬ (fr : Int) < k := by omega
            have hfe : fr = k := by omega
            have HA : Hid (acc ++ Sl.fgo (cutB l (k + 1) (k + 1)) (l.drop (k + 1)) = F) := hide (by
              rw [← hacc, h32, hfe, cutB_self, cutB_self]
              conv => rhs; unfold Sl.fgo
              simp)
            generalize hxt : x.toNat = xt at *
            clear hacc hcs h32 hx hxt hfe
            go_wp2
            go_roundw
            case rel => exact ⟨k + 1, k + 1, acc, by go_num, by go_num, Nat.le_refl _, hown, hb, Or.inl ⟨by omega, unhide HA⟩⟩
            case measure => simp [intOf]; omega
        · have hb32 : ((x.toNat : Int) == 32) = false := by
            rw [beq_eq_false_iff_ne]
            intro e
            exact h32 (UInt8.toNat_inj.1 (by show x.toNat = 32; omega))
          have HA : Hid (acc ++ Sl.fgo (cutB l fr (k + 1)) (l.drop (k + 1)) = F) := hide (by
            rw [← hacc, hcs]
            conv => rhs; unfold Sl.fgo
            rw [if_neg h32])
          generalize hxt : x.toNat = xt at *
          clear hacc hcs h32 hx hxt
          go_wp2
          go_roundw
          case rel => exact ⟨fr, k + 1, acc, rfl, by go_num, by omega, hown, hb, Or.inl ⟨by omega, unhide HA⟩⟩
          case measure => simp [intOf]; omega
      · obtain rfl : k = l.length := by omega
        have hd : l.drop l.length = [] := List.drop_eq_nil_of_le (by omega)
        rw [hd] at hacc
        by_cases hfr : fr < l.length
        · have q : (fr : Int) < l.length := by omega
          obtain ⟨L, hL, kL⟩ := slc_ex S l (unhide HS) (fr : Int) (l.length : Int) fr l.length rfl rfl hfk hk
          have HL : Hid (L = ⟨(cutB l fr l.length).toArray⟩) := hide hL
          have HA : Hid ((acc ++ [cutB l fr l.length]) = F) := hide (by
            rw [← hacc, Sl.fgo_nil_ne _ (by intro e; have := cutB_len l fr l.length hk; rw [e] at this; simp at this; omega)])
          clear hacc hL hd
          go_wp2_with (at_builtin; refine wpList_append_own _ rfl (.tmp 25) (.tmp 30) 74 rfl w.heap.size 9 i0 (.string ⟨#[]⟩) 1 16 Tryz.underlying74 hi hz0 hz1 hz2 rfl (by decide) _ _ _ rfl (hown.alloc _) ⟨wr.heap.size, 0, none⟩ 1 1 [.string L] rfl rfl (cell_new_at _ _ _ _ rfl) (by intro u hu; simp at hu; subst hu; rfl) (by unfold maxLen; omega) (by omega) (by simp; omega) ?_; intro v3 w3 hown3 hgrow3 hnil3)
          go_roundw
          case rel =>
            refine ⟨l.length + 1, l.length + 1, acc ++ [cutB l fr l.length], by go_num, by go_num, Nat.le_refl _, ?_, ?_, Or.inr ⟨rfl, unhide HA⟩⟩
            · rw [strV_snoc, List.length_append, ← unhide HL]; exact hown3
            · exact (hb.alloc (by omega) _).grown hgrow3 (by simp; omega) (own_base hown)
          case measure => simp [intOf]
        · have q : ¬ (fr : Int) < l.length := by omega
          have HA : Hid (acc = F) := hide (by
            have hfe : fr = l.length := by omega
            rw [← hacc, hfe, cutB_self]; simp [Sl.fgo])
          clear hacc hd
          go_wp2
          go_roundw
          case rel => exact ⟨l.length + 1, l.length + 1, acc, by go_num, by go_num, Nat.le_refl _, hown, hb, Or.inr ⟨rfl, unhide HA⟩⟩
          case measure => simp [intOf]
    · have hki : ¬ (k : Int) ≤ (S.size : Int) := by omega
      have HA := hide hacc
      clear hacc
      go_wp2
      go_ret
      exact ⟨_, rfl, by rw [← unhide HA]; exact hown, hb⟩

end Go.Proofs.YthmhfilkgggagaaGreatDoor
