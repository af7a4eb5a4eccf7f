/-
  Plain mathematics on bytes for the words of the text of limits: names, numbers, classes; nothing of the program is named here.
-/
import Derived.Laws.RangeAny
import Derived.ProofKit
namespace Go.Proofs.YthmhfilkgggagaaGreatDoor
namespace Sl

def plainC (c : UInt8) : Bool := decide ((97 ≤ c.toNat ∧ c.toNat ≤ 122) ∨ (48 ≤ c.toNat ∧ c.toNat ≤ 57) ∨ c.toNat = 45)
def greekC (c d : UInt8) : Bool := decide ((c.toNat = 206 ∧ 177 ≤ d.toNat ∧ d.toNat ≤ 191) ∨ (c.toNat = 207 ∧ 128 ≤ d.toNat ∧ d.toNat ≤ 137))

/-- How many characters a text has that is made of a name's characters alone. -/
def nameLen : List UInt8 → Option Nat
  | [] => some 0
  | [c] => if plainC c = true then some 1 else none
  | c :: d :: r => if plainC c = true then (nameLen (d :: r)).map (· + 1) else if greekC c d = true then (nameLen r).map (· + 1) else none

/-- What is asked of the rest, when k characters have been read. -/
def nameCont (k : Nat) (l : List UInt8) : Bool := match nameLen l with
  | some m => decide (1 ≤ k + m ∧ k + m ≤ 8)
  | none => false

def isName (l : List UInt8) : Bool := nameCont 0 l

def nameRune (r : Int) : Bool := decide ((97 ≤ r ∧ r ≤ 122) ∨ (48 ≤ r ∧ r ≤ 57) ∨ r = 45 ∨ (945 ≤ r ∧ r ≤ 969))

theorem nameLen_plain (c : UInt8) (r : List UInt8) (h : plainC c = true) : nameLen (c :: r) = (nameLen r).map (· + 1) := by
  cases r with
  | nil => simp [nameLen, h]
  | cons d r => simp [nameLen, h]

theorem nameLen_greek (c d : UInt8) (r : List UInt8) (h : plainC c = false) (g : greekC c d = true) : nameLen (c :: d :: r) = (nameLen r).map (· + 1) := by
  simp [nameLen, h, g]

theorem nameLen_none (c : UInt8) (r : List UInt8) (h : plainC c = false) (g : ∀ d r', r = d :: r' → greekC c d = false) : nameLen (c :: r) = none := by
  cases r with
  | nil => simp [nameLen, h]
  | cons d r => simp [nameLen, h, g d r rfl]

theorem nameCont_step (k : Nat) (l r : List UInt8) (h : nameLen l = (nameLen r).map (· + 1)) : nameCont k l = nameCont (k + 1) r := by
  unfold nameCont
  rw [h]
  cases nameLen r with
  | none => rfl
  | some m => simp only [Option.map_some]; rw [show k + (m + 1) = k + 1 + m from by omega]

theorem nameCont_over (k : Nat) (h : 8 ≤ k) (l : List UInt8) (hl : l ≠ []) : nameCont k l = false := by
  unfold nameCont
  cases hm : nameLen l with
  | none => rfl
  | some m =>
    have : m ≠ 0 := by
      intro e; subst e
      cases l with
      | nil => exact hl rfl
      | cons c r =>
        cases r with
        | nil => simp only [nameLen] at hm; split at hm <;> simp at hm
        | cons d r =>
          simp only [nameLen] at hm
          split at hm
          · cases hq : nameLen (d :: r) <;> rw [hq] at hm <;> simp at hm
          · split at hm
            · cases hq : nameLen r <;> rw [hq] at hm <;> simp at hm
            · simp at hm
    simp; omega

theorem drop_cons (s : ByteArray) (pos : Nat) (h : pos < s.size) : s.data.toList.drop pos = s[pos] :: s.data.toList.drop (pos + 1) := by
  have : pos < s.data.toList.length := by simpa using h
  rw [List.drop_eq_getElem_cons this]; rfl

theorem get_at (s : ByteArray) (i : Nat) (h : i < s.size) : s.get! i = s[i] := by
  have h' : i < s.data.size := h
  simp only [ByteArray.get!, ByteArray.getElem_eq_getElem_data]
  rw [getElem!_pos s.data i h']

theorem u8lt (c : UInt8) : c.toNat < 256 := c.toNat_lt

/-- What the rune at a place says of the name: one way on, or none. -/
theorem rune_step (s : ByteArray) (pos : Nat) (h : pos < s.size) (k : Nat) (hr : nameRune ((Utf8.decode s pos).1 : Int) = true) :
    nameCont k (s.data.toList.drop pos) = nameCont (k + 1) (s.data.toList.drop (pos + (Utf8.decode s pos).2)) := by
  have hb := u8lt s[pos]
  by_cases hp : plainC s[pos] = true
  · have ha : s[pos].toNat < 128 := by simp [plainC] at hp; omega
    rw [decode_ascii s pos h ha, drop_cons s pos h]
    exact nameCont_step _ _ _ (nameLen_plain _ _ hp)
  · have hp' : plainC s[pos] = false := by simpa using hp
    by_cases ha : s[pos].toNat < 128
    · rw [decode_ascii s pos h ha] at hr
      simp [plainC] at hp'
      simp [nameRune] at hr
      omega
    · have h0 : s.get! pos = s[pos] := get_at s pos h
      revert hr
      unfold Utf8.decode
      simp only [Nat.add_zero, h0]
      rw [if_neg ha]
      by_cases h1 : pos + 1 < s.size
      · have g1 : s.get! (pos + 1) = s[pos + 1] := get_at s (pos + 1) h1
        have hb1 := u8lt s[pos + 1]
        rw [g1]
        simp only [h1, decide_true, Bool.true_and]
        by_cases c2 : (s[pos].toNat / 32 == 6 && s[pos + 1].toNat / 64 == 2) = true
        · rw [if_pos c2]
          simp at c2
          by_cases c3 : s[pos].toNat % 32 * 64 + s[pos + 1].toNat % 64 ≥ 128
          · rw [if_pos c3]
            intro hr
            simp [nameRune] at hr
            have g : greekC s[pos] s[pos + 1] = true := by simp [greekC]; omega
            rw [drop_cons s pos h, drop_cons s (pos + 1) h1]
            exact nameCont_step _ _ _ (nameLen_greek _ _ _ hp' g)
          · rw [if_neg c3]; intro hr; simp [nameRune, Utf8.runeError] at hr
        · rw [if_neg c2]
          intro hr
          exfalso
          revert hr
          split
          · split
            · rename_i c4; simp at c4; intro hr; simp [nameRune] at hr; omega
            · intro hr; simp [nameRune, Utf8.runeError] at hr
          · split
            · split
              · rename_i c4; simp at c4; intro hr; simp [nameRune] at hr; omega
              · intro hr; simp [nameRune, Utf8.runeError] at hr
            · intro hr; simp [nameRune, Utf8.runeError] at hr
      · simp only [h1, decide_false, Bool.false_and, Bool.and_false]
        intro hr
        simp [nameRune, Utf8.runeError] at hr

theorem rune_stop (s : ByteArray) (pos : Nat) (h : pos < s.size) (k : Nat) (hr : nameRune ((Utf8.decode s pos).1 : Int) = false) :
    nameCont k (s.data.toList.drop pos) = false := by
  have hb := u8lt s[pos]
  have key : nameLen (s.data.toList.drop pos) = none := by
    rw [drop_cons s pos h]
    have hp : plainC s[pos] = false := by
      by_cases hp : plainC s[pos] = true
      · have ha : s[pos].toNat < 128 := by simp [plainC] at hp; omega
        rw [decode_ascii s pos h ha] at hr
        simp [plainC] at hp
        simp [nameRune] at hr
        omega
      · simpa using hp
    refine nameLen_none _ _ hp ?_
    intro d r' hd
    by_cases h1 : pos + 1 < s.size
    · rw [drop_cons s (pos + 1) h1] at hd
      obtain ⟨rfl, rfl⟩ := List.cons.inj hd
      have hb1 := u8lt s[pos + 1]
      by_cases g : greekC s[pos] s[pos + 1] = true
      · exfalso
        have h0 : s.get! pos = s[pos] := get_at s pos h
        have g1 : s.get! (pos + 1) = s[pos + 1] := get_at s (pos + 1) h1
        simp [greekC] at g
        revert hr
        unfold Utf8.decode
        simp only [Nat.add_zero, h0, g1, h1, decide_true, Bool.true_and]
        rw [if_neg (by omega), if_pos (by simp; omega), if_pos (by omega)]
        intro hr
        simp [nameRune] at hr
        omega
      · simpa using g
    · have hn : s.data.toList.drop (pos + 1) = [] := List.drop_eq_nil_of_le (by simp; omega)
      rw [hn] at hd; cases hd
  unfold nameCont; rw [key]

theorem nameCont_end (k : Nat) (l : List UInt8) (h : l = []) : nameCont k l = decide (1 ≤ k ∧ k ≤ 8) := by
  subst h; simp [nameCont, nameLen]

/-! numbers: digits alone, one to seven -/
def digC (c : UInt8) : Bool := decide (48 ≤ c.toNat ∧ c.toNat ≤ 57)
def numTo (n : Nat) : List UInt8 → Option Nat
  | [] => some n
  | c :: r => if digC c = true then numTo (n * 10 + (c.toNat - 48)) r else none
/-- The number from 1 to most; 0: there is none. -/
def number (most : Int) (l : List UInt8) : Nat :=
  if 7 < l.length then 0 else match numTo 0 l with
    | some n => if (n : Int) ≤ most then n else 0
    | none => 0

theorem numTo_le (l : List UInt8) : ∀ n m, numTo n l = some m → m + 1 ≤ (n + 1) * 10 ^ l.length := by
  induction l with
  | nil => intro n m h; simp [numTo] at h; simp; omega
  | cons c r ih =>
    intro n m h
    simp only [numTo] at h
    split at h
    · rename_i hd
      have hb := u8lt c
      simp [digC] at hd
      have := ih _ _ h
      have e : (n + 1) * 10 ^ (c :: r).length = ((n + 1) * 10) * 10 ^ r.length := by simp [Nat.pow_succ, Nat.mul_comm, Nat.mul_assoc]
      rw [e]
      refine Nat.le_trans this (Nat.mul_le_mul_right _ ?_)
      omega
    · cases h

theorem rune_digit (s : ByteArray) (pos : Nat) (h : pos < s.size) (h1 : 48 ≤ ((Utf8.decode s pos).1 : Int)) (h2 : ((Utf8.decode s pos).1 : Int) ≤ 57) :
    Utf8.decode s pos = (s[pos].toNat, 1) ∧ digC s[pos] = true := by
  by_cases ha : s[pos].toNat < 128
  · rw [decode_ascii s pos h ha] at h1 h2
    rw [decode_ascii s pos h ha]
    exact ⟨rfl, by simp [digC]; omega⟩
  · have := (decode_high s pos h (by omega)).1
    omega

theorem rune_nodigit (s : ByteArray) (pos : Nat) (h : pos < s.size) (h1 : ¬ (48 ≤ ((Utf8.decode s pos).1 : Int) ∧ ((Utf8.decode s pos).1 : Int) ≤ 57)) : digC s[pos] = false := by
  by_cases ha : s[pos].toNat < 128
  · rw [decode_ascii s pos h ha] at h1
    simp [digC]; omega
  · simp [digC]; omega

/-! classes -/
def ingestW : List UInt8 := [105, 110, 103, 101, 115, 116]
def queryW : List UInt8 := [113, 117, 101, 114, 121]
def classOf (l : List UInt8) : Option Nat := if l = ingestW then some 0 else if l = queryW then some 1 else none
def classW (c : Nat) : List UInt8 := if c = 0 then ingestW else queryW

theorem classOf_lt {l : List UInt8} {c : Nat} (h : classOf l = some c) : c < 2 := by
  unfold classOf at h; split at h
  · cases h; omega
  · split at h
    · cases h; omega
    · cases h

theorem str_eq (a b : ByteArray) : (a.toList == b.toList) = decide (a.data.toList = b.data.toList) := by
  rw [ByteArray.toList_eq, ByteArray.toList_eq]; rw [Bool.eq_iff_iff]; simp

theorem str_eql (a : ByteArray) (l : List UInt8) : (a.toList == l) = decide (a.data.toList = l) := by
  rw [ByteArray.toList_eq]; rw [Bool.eq_iff_iff]; simp

end Sl
end Go.Proofs.YthmhfilkgggagaaGreatDoor
