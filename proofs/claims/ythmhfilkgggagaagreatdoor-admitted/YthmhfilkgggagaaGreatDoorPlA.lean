/-
  Plain mathematics on bytes for the words of the text of limits: names, numbers, classes; nothing of the program is named here.
  Plain mathematics on bytes: a text's lines, a line's words, as the library's own functions cut them; nothing of the program is named here.
-/
import Derived.Laws.RangeAny
import Derived.ProofKit
import Derived.Lib.FieldsP
import Derived.Lib.SplitLaws
namespace Go.Proofs.YthmhfilkgggagaaGreatDoor
namespace Sl

def plainC (c : UInt8) : Bool := decide ((97 ≤ c.toNat ∧ c.toNat ≤ 122) ∨ (48 ≤ c.toNat ∧ c.toNat ≤ 57) ∨ c.toNat = 45)
def greekC (c d : UInt8) : Bool := decide ((c.toNat = 206 ∧ 177 ≤ d.toNat ∧ d.toNat ≤ 191) ∨ (c.toNat = 207 ∧ 128 ≤ d.toNat ∧ d.toNat ≤ 137))

/-- How many characters a text has that is made of a name's characters alone. -/
def nameLen : List UInt8 → Option Nat
  | [] => some 0
  | [c] => if plainC c = true then some 1 else none
  | c :: d :: r => if plainC c = true then (nameLen (d :: r)).map (· + 1) else if greekC c d = true then (nameLen r).map (· + 1) else none

/-- What is asked of the rest, when k characters have been read. -/
def nameCont (k : Nat) (l : List UInt8) : Bool := match nameLen l with
  | some m => decide (1 ≤ k + m ∧ k + m ≤ 8)
  | none => false

def isName (l : List UInt8) : Bool := nameCont 0 l

def nameRune (r : Int) : Bool := decide ((97 ≤ r ∧ r ≤ 122) ∨ (48 ≤ r ∧ r ≤ 57) ∨ r = 45 ∨ (945 ≤ r ∧ r ≤ 969))

theorem nameLen_plain (c : UInt8) (r : List UInt8) (h : plainC c = true) : nameLen (c :: r) = (nameLen r).map (· + 1) := by
  cases r with
  | nil => simp [nameLen, h]
  | cons d r => simp [nameLen, h]

theorem nameLen_greek (c d : UInt8) (r : List UInt8) (h : plainC c = false) (g : greekC c d = true) : nameLen (c :: d :: r) = (nameLen r).map (· + 1) := by
  simp [nameLen, h, g]

theorem nameLen_none (c : UInt8) (r : List UInt8) (h : plainC c = false) (g : ∀ d r', r = d :: r' → greekC c d = false) : nameLen (c :: r) = none := by
  cases r with
  | nil => simp [nameLen, h]
  | cons d r => simp [nameLen, h, g d r rfl]

theorem nameCont_step (k : Nat) (l r : List UInt8) (h : nameLen l = (nameLen r).map (· + 1)) : nameCont k l = nameCont (k + 1) r := by
  unfold nameCont
  rw [h]
  cases nameLen r with
  | none => rfl
  | some m => simp only [Option.map_some]; rw [show k + (m + 1) = k + 1 + m from by omega]

theorem nameCont_over (k : Nat) (h : 8 ≤ k) (l : List UInt8) (hl : l ≠ []) : nameCont k l = false := by
  unfold nameCont
  cases hm : nameLen l with
  | none => rfl
  | some m =>
    have : m ≠ 0 := by
      intro e; subst e
      cases l with
      | nil => exact hl rfl
      | cons c r =>
        cases r with
        | nil => simp only [nameLen] at hm; split at hm <;> simp at hm
        | cons d r =>
          simp only [nameLen] at hm
          split at hm
          · cases hq : nameLen (d :: r) <;> rw [hq] at hm <;> simp at hm
          · split at hm
            · cases hq : nameLen r <;> rw [hq] at hm <;> simp at hm
            · simp at hm
    simp; omega

theorem drop_cons (s : ByteArray) (pos : Nat) (h : pos < s.size) : s.data.toList.drop pos = s[pos] :: s.data.toList.drop (pos + 1) := by
  have : pos < s.data.toList.length := by simpa using h
  rw [List.drop_eq_getElem_cons this]; rfl

theorem get_at (s : ByteArray) (i : Nat) (h : i < s.size) : s.get! i = s[i] := by
  have h' : i < s.data.size := h
  simp only [ByteArray.get!, ByteArray.getElem_eq_getElem_data]
  rw [getElem!_pos s.data i h']

theorem u8lt (c : UInt8) : c.toNat < 256 := c.toNat_lt

/-- What the rune at a place says of the name: one way on, or none. -/
theorem rune_step (s : ByteArray) (pos : Nat) (h : pos < s.size) (k : Nat) (hr : nameRune ((Utf8.decode s pos).1 : Int) = true) :
    nameCont k (s.data.toList.drop pos) = nameCont (k + 1) (s.data.toList.drop (pos + (Utf8.decode s pos).2)) := by
  have hb := u8lt s[pos]
  by_cases hp : plainC s[pos] = true
  · have ha : s[pos].toNat < 128 := by simp [plainC] at hp; omega
    rw [decode_ascii s pos h ha, drop_cons s pos h]
    exact nameCont_step _ _ _ (nameLen_plain _ _ hp)
  · have hp' : plainC s[pos] = false := by simpa using hp
    by_cases ha : s[pos].toNat < 128
    · rw [decode_ascii s pos h ha] at hr
      simp [plainC] at hp'
      simp [nameRune] at hr
      omega
    · have h0 : s.get! pos = s[pos] := get_at s pos h
      revert hr
      unfold Utf8.decode
      simp only [Nat.add_zero, h0]
      rw [if_neg ha]
      by_cases h1 : pos + 1 < s.size
      · have g1 : s.get! (pos + 1) = s[pos + 1] := get_at s (pos + 1) h1
        have hb1 := u8lt s[pos + 1]
        rw [g1]
        simp only [h1, decide_true, Bool.true_and]
        by_cases c2 : (s[pos].toNat / 32 == 6 && s[pos + 1].toNat / 64 == 2) = true
        · rw [if_pos c2]
          simp at c2
          by_cases c3 : s[pos].toNat % 32 * 64 + s[pos + 1].toNat % 64 ≥ 128
          · rw [if_pos c3]
            intro hr
            simp [nameRune] at hr
            have g : greekC s[pos] s[pos + 1] = true := by simp [greekC]; omega
            rw [drop_cons s pos h, drop_cons s (pos + 1) h1]
            exact nameCont_step _ _ _ (nameLen_greek _ _ _ hp' g)
          · rw [if_neg c3]; intro hr; simp [nameRune, Utf8.runeError] at hr
        · rw [if_neg c2]
          intro hr
          exfalso
          revert hr
          split
          · split
            · rename_i c4; simp at c4; intro hr; simp [nameRune] at hr; omega
            · intro hr; simp [nameRune, Utf8.runeError] at hr
          · split
            · split
              · rename_i c4; simp at c4; intro hr; simp [nameRune] at hr; omega
              · intro hr; simp [nameRune, Utf8.runeError] at hr
            · intro hr; simp [nameRune, Utf8.runeError] at hr
      · simp only [h1, decide_false, Bool.false_and, Bool.and_false]
        intro hr
        simp [nameRune, Utf8.runeError] at hr

theorem rune_stop (s : ByteArray) (pos : Nat) (h : pos < s.size) (k : Nat) (hr : nameRune ((Utf8.decode s pos).1 : Int) = false) :
    nameCont k (s.data.toList.drop pos) = false := by
  have hb := u8lt s[pos]
  have key : nameLen (s.data.toList.drop pos) = none := by
    rw [drop_cons s pos h]
    have hp : plainC s[pos] = false := by
      by_cases hp : plainC s[pos] = true
      · have ha : s[pos].toNat < 128 := by simp [plainC] at hp; omega
        rw [decode_ascii s pos h ha] at hr
        simp [plainC] at hp
        simp [nameRune] at hr
        omega
      · simpa using hp
    refine nameLen_none _ _ hp ?_
    intro d r' hd
    by_cases h1 : pos + 1 < s.size
    · rw [drop_cons s (pos + 1) h1] at hd
      obtain ⟨rfl, rfl⟩ := List.cons.inj hd
      have hb1 := u8lt s[pos + 1]
      by_cases g : greekC s[pos] s[pos + 1] = true
      · exfalso
        have h0 : s.get! pos = s[pos] := get_at s pos h
        have g1 : s.get! (pos + 1) = s[pos + 1] := get_at s (pos + 1) h1
        simp [greekC] at g
        revert hr
        unfold Utf8.decode
        simp only [Nat.add_zero, h0, g1, h1, decide_true, Bool.true_and]
        rw [if_neg (by omega), if_pos (by simp; omega), if_pos (by omega)]
        intro hr
        simp [nameRune] at hr
        omega
      · simpa using g
    · have hn : s.data.toList.drop (pos + 1) = [] := List.drop_eq_nil_of_le (by simp; omega)
      rw [hn] at hd; cases hd
  unfold nameCont; rw [key]

theorem nameCont_end (k : Nat) (l : List UInt8) (h : l = []) : nameCont k l = decide (1 ≤ k ∧ k ≤ 8) := by
  subst h; simp [nameCont, nameLen]

/-! numbers: digits alone, one to seven -/
def digC (c : UInt8) : Bool := decide (48 ≤ c.toNat ∧ c.toNat ≤ 57)
def numTo (n : Nat) : List UInt8 → Option Nat
  | [] => some n
  | c :: r => if digC c = true then numTo (n * 10 + (c.toNat - 48)) r else none
/-- The number from 1 to most; 0: there is none. -/
def number (most : Int) (l : List UInt8) : Nat :=
  if 7 < l.length then 0 else match numTo 0 l with
    | some n => if (n : Int) ≤ most then n else 0
    | none => 0

theorem numTo_le (l : List UInt8) : ∀ n m, numTo n l = some m → m + 1 ≤ (n + 1) * 10 ^ l.length := by
  induction l with
  | nil => intro n m h; simp [numTo] at h; simp; omega
  | cons c r ih =>
    intro n m h
    simp only [numTo] at h
    split at h
    · rename_i hd
      have hb := u8lt c
      simp [digC] at hd
      have := ih _ _ h
      have e : (n + 1) * 10 ^ (c :: r).length = ((n + 1) * 10) * 10 ^ r.length := by simp [Nat.pow_succ, Nat.mul_comm, Nat.mul_assoc]
      rw [e]
      refine Nat.le_trans this (Nat.mul_le_mul_right _ ?_)
      omega
    · cases h

theorem rune_digit (s : ByteArray) (pos : Nat) (h : pos < s.size) (h1 : 48 ≤ ((Utf8.decode s pos).1 : Int)) (h2 : ((Utf8.decode s pos).1 : Int) ≤ 57) :
    Utf8.decode s pos = (s[pos].toNat, 1) ∧ digC s[pos] = true := by
  by_cases ha : s[pos].toNat < 128
  · rw [decode_ascii s pos h ha] at h1 h2
    rw [decode_ascii s pos h ha]
    exact ⟨rfl, by simp [digC]; omega⟩
  · have := (decode_high s pos h (by omega)).1
    omega

theorem rune_nodigit (s : ByteArray) (pos : Nat) (h : pos < s.size) (h1 : ¬ (48 ≤ ((Utf8.decode s pos).1 : Int) ∧ ((Utf8.decode s pos).1 : Int) ≤ 57)) : digC s[pos] = false := by
  by_cases ha : s[pos].toNat < 128
  · rw [decode_ascii s pos h ha] at h1
    simp [digC]; omega
  · simp [digC]; omega

/-! classes -/
def ingestW : List UInt8 := [105, 110, 103, 101, 115, 116]
def queryW : List UInt8 := [113, 117, 101, 114, 121]
def classOf (l : List UInt8) : Option Nat := if l = ingestW then some 0 else if l = queryW then some 1 else none
def classW (c : Nat) : List UInt8 := if c = 0 then ingestW else queryW

theorem classOf_lt {l : List UInt8} {c : Nat} (h : classOf l = some c) : c < 2 := by
  unfold classOf at h; split at h
  · cases h; omega
  · split at h
    · cases h; omega
    · cases h

theorem str_eq (a b : ByteArray) : (a.toList == b.toList) = decide (a.data.toList = b.data.toList) := by
  rw [ByteArray.toList_eq, ByteArray.toList_eq]; rw [Bool.eq_iff_iff]; simp

theorem str_eql (a : ByteArray) (l : List UInt8) : (a.toList == l) = decide (a.data.toList = l) := by
  rw [ByteArray.toList_eq]; rw [Bool.eq_iff_iff]; simp

end Sl
end Go.Proofs.YthmhfilkgggagaaGreatDoor

namespace Go.Proofs.YthmhfilkgggagaaGreatDoor
namespace Sl

def lgo : List UInt8 → List UInt8 → List (List UInt8)
  | cur, [] => [cur]
  | cur, x :: r => if x = 10 then cur :: lgo [] r else lgo (cur ++ [x]) r
def fgo : List UInt8 → List UInt8 → List (List UInt8)
  | cur, [] => if cur = [] then [] else [cur]
  | cur, x :: r => if x = 32 then (if cur = [] then fgo [] r else cur :: fgo [] r) else fgo (cur ++ [x]) r

/-- A text's lines; a line's words. -/
def lines (l : List UInt8) : List (List UInt8) := lgo [] l
def fields (l : List UInt8) : List (List UInt8) := fgo [] l

def consHead (cur : List UInt8) : List (List UInt8) → List (List UInt8)
  | [] => [cur]
  | h :: t => (cur ++ h) :: t

theorem consHead_nil (l : List (List UInt8)) (h : l ≠ []) : consHead [] l = l := by
  cases l with
  | nil => exact absurd rfl h
  | cons a b => simp [consHead]

theorem lgo_ne (cur l : List UInt8) : lgo cur l ≠ [] := by
  induction l generalizing cur with
  | nil => simp [lgo]
  | cons x r ih => unfold lgo; split <;> simp [ih]

theorem lgo_cur (cur l : List UInt8) : lgo cur l = consHead cur (lgo [] l) := by
  induction l generalizing cur with
  | nil => simp [lgo, consHead]
  | cons x r ih =>
    unfold lgo
    split
    · simp [consHead]
    · rw [ih (cur ++ [x]), ih ([] ++ [x])]
      cases hl : lgo [] r with
      | nil => exact absurd hl (lgo_ne _ _)
      | cons h t => simp [consHead]

theorem index_one_eq (c : UInt8) (l : List UInt8) : Lib.index (c :: l) [c] = 0 := by
  unfold Lib.index; simp [List.isPrefixOf]
theorem index_one_ne (x c : UInt8) (l : List UInt8) (h : x ≠ c) : Lib.index (x :: l) [c] = if Lib.index l [c] == -1 then -1 else Lib.index l [c] + 1 := by
  conv => lhs; unfold Lib.index
  have : List.isPrefixOf [c] (x :: l) = false := by simp [List.isPrefixOf]; exact fun e => h e.symm
  rw [this]; simp
theorem index_one_ge (c : UInt8) (l : List UInt8) : -1 ≤ Lib.index l [c] := by
  induction l with
  | nil => simp [Lib.index]
  | cons x r ih =>
    by_cases h : x = c
    · subst h; rw [index_one_eq]; omega
    · rw [index_one_ne x c r h]; split <;> omega
theorem index_one_mem (c : UInt8) (l : List UInt8) (h : 0 < l.count c) : 0 ≤ Lib.index l [c] := by
  induction l with
  | nil => simp at h
  | cons x r ih =>
    by_cases e : x = c
    · subst e; rw [index_one_eq]; omega
    · rw [index_one_ne x c r e]
      have : 0 < r.count c := by rw [List.count_cons] at h; simp [e] at h; simpa using h
      have := ih this
      rw [if_neg (by rw [beq_iff_eq]; omega)]; omega

theorem splitK_lines (l : List UInt8) : Lib.splitK [10] 0 (l.count 10) l = lines l := by
  unfold lines
  induction l with
  | nil => rfl
  | cons x r ih =>
    by_cases e : x = 10
    · subst e
      have hc : (10 :: r : List UInt8).count 10 = r.count 10 + 1 := by simp
      rw [hc, Lib.splitK, index_one_eq]
      simp only [lgo]
      rw [if_neg (by decide)]
      simp [ih]
    · have hc : (x :: r : List UInt8).count 10 = r.count 10 := by rw [List.count_cons]; simp [e]
      have hl : lgo [] (x :: r) = consHead [x] (lgo [] r) := by
        conv => lhs; unfold lgo
        rw [if_neg e, lgo_cur]; rfl
      rw [hc, hl, ← ih]
      cases hk : r.count 10 with
      | zero => simp [Lib.splitK, consHead]
      | succ k =>
        have h0 := index_one_mem 10 r (by omega)
        have hi := index_one_ne x 10 r e
        rw [if_neg (by rw [beq_iff_eq]; omega)] at hi
        rw [Lib.splitK, Lib.splitK, hi, if_neg (by rw [beq_iff_eq]; omega), if_neg (by rw [beq_iff_eq]; omega)]
        obtain ⟨i, hi2⟩ : ∃ i : Nat, Lib.index r [10] = i := ⟨(Lib.index r [10]).toNat, by omega⟩
        rw [hi2]
        have e1 : ((i : Int) + 1).toNat = i + 1 := by omega
        rw [e1]
        simp [consHead]

theorem ten_data : (⟨#[10]⟩ : ByteArray).data.toList = [10] := rfl

theorem split_lines (s : ByteArray) : (Lib.splitB ⟨#[10]⟩ 0 (Lib.countB s ⟨#[10]⟩) s).map (·.data.toList) = lines s.data.toList := by
  rw [Lib.splitB_data, ten_data]
  have : Lib.countB s ⟨#[10]⟩ = s.data.toList.count 10 := by
    show Lib.count _ _ = _
    rw [ten_data, Lib.count_one]
  rw [this, splitK_lines]

/-! words -/
theorem fgo_more (l r : List UInt8) (h : ∀ x ∈ l, x ≠ 32) (cur : List UInt8) : fgo cur (l ++ r) = fgo (cur ++ l) r := by
  induction l generalizing cur with
  | nil => simp
  | cons x t ih =>
    simp only [List.cons_append]
    conv => lhs; unfold fgo
    rw [if_neg (h x (by simp)), ih (fun y hy => h y (by simp [hy]))]
    simp

theorem fgo_nil_ne (cur : List UInt8) (h : cur ≠ []) : fgo cur [] = [cur] := by unfold fgo; rw [if_neg h]
theorem fgo_blank_ne (cur r : List UInt8) (h : cur ≠ []) : fgo cur (32 :: r) = cur :: fgo [] r := by
  conv => lhs; unfold fgo
  rw [if_pos rfl, if_neg h]

def piece (s : ByteArray) (x : Nat × Nat) : List UInt8 := (s.extract x.1 x.2).data.toList
theorem piece_eq (s : ByteArray) (a b : Nat) : piece s (a, b) = (s.data.toList.drop a).take (b - a) := Lib.extract_data s a b

theorem decode_bytes (s : ByteArray) (pos : Nat) (h : pos < s.size) : pos + (Utf8.decode s pos).2 ≤ s.size ∧ ((Utf8.decode s pos).1 ≠ 32 → ∀ j, j < (Utf8.decode s pos).2 → ∀ hj : pos + j < s.size, s[pos + j] ≠ 32) := by
  by_cases ha : s[pos].toNat < 128
  · rw [decode_ascii s pos h ha]
    refine ⟨by simp; omega, fun hr j hj hj2 => ?_⟩
    simp at hj hr
    subst hj
    intro e
    apply hr
    simp only [Nat.add_zero] at e
    rw [e]; rfl
  · have h0 : s.get! pos = s[pos] := get_at s pos h
    have hb := u8lt s[pos]
    have key : ∀ r k, Utf8.decode s pos = (r, k) → pos + k ≤ s.size ∧ ∀ j, j < k → ∀ hj : pos + j < s.size, 128 ≤ s[pos + j].toNat := by
      intro r k
      unfold Utf8.decode
      simp only [Nat.add_zero, h0]
      rw [if_neg ha]
      have base : ∀ (r' : Nat), (r', 1) = (r, k) → pos + k ≤ s.size ∧ ∀ j, j < k → ∀ hj : pos + j < s.size, 128 ≤ s[pos + j].toNat := by
        intro r' e
        simp at e
        obtain ⟨_, rfl⟩ := e
        refine ⟨by omega, fun j hj hj2 => ?_⟩
        have : j = 0 := by omega
        subst this
        simp only [Nat.add_zero]; omega
      have cont : ∀ i, (decide (pos + i < s.size) && (s.get! (pos + i)).toNat / 64 == 2) = true → ∃ hi : pos + i < s.size, 128 ≤ s[pos + i].toNat := by
        intro i hi
        simp at hi
        obtain ⟨h1, h2⟩ := hi
        refine ⟨h1, ?_⟩
        rw [get_at s _ h1] at h2
        omega
      split
      · rename_i c
        rw [Bool.and_eq_true] at c
        obtain ⟨g1, g2⟩ := cont 1 c.2
        split
        · intro e
          simp at e
          obtain ⟨_, rfl⟩ := e
          refine ⟨by omega, fun j hj hj2 => ?_⟩
          match j, hj with
          | 0, _ => simp only [Nat.add_zero]; omega
          | 1, _ => exact g2
        · exact base _
      · split
        · rename_i c
          simp only [Bool.and_eq_true] at c
          obtain ⟨g1, g2⟩ := cont 1 (by simp only [Bool.and_eq_true]; exact c.1.2)
          obtain ⟨g3, g4⟩ := cont 2 (by simp only [Bool.and_eq_true]; exact c.2)
          split
          · intro e
            simp at e
            obtain ⟨_, rfl⟩ := e
            refine ⟨by omega, fun j hj hj2 => ?_⟩
            match j, hj with
            | 0, _ => simp only [Nat.add_zero]; omega
            | 1, _ => exact g2
            | 2, _ => exact g4
          · exact base _
        · split
          · rename_i c
            simp only [Bool.and_eq_true] at c
            obtain ⟨g1, g2⟩ := cont 1 (by simp only [Bool.and_eq_true]; exact c.1.1.2)
            obtain ⟨g3, g4⟩ := cont 2 (by simp only [Bool.and_eq_true]; exact c.1.2)
            obtain ⟨g5, g6⟩ := cont 3 (by simp only [Bool.and_eq_true]; exact c.2)
            split
            · intro e
              simp at e
              obtain ⟨_, rfl⟩ := e
              refine ⟨by omega, fun j hj hj2 => ?_⟩
              match j, hj with
              | 0, _ => simp only [Nat.add_zero]; omega
              | 1, _ => exact g2
              | 2, _ => exact g4
              | 3, _ => exact g6
            · exact base _
          · exact base _
    obtain ⟨k1, k2⟩ := key _ _ rfl
    refine ⟨k1, fun _ j hj hj2 e => ?_⟩
    have := k2 j hj hj2
    rw [e] at this
    exact absurd this (by decide)

theorem decode_blank (s : ByteArray) (pos : Nat) (h : pos < s.size) (hr : (Utf8.decode s pos).1 = 32) : (Utf8.decode s pos).2 = 1 ∧ s[pos] = 32 := by
  by_cases ha : s[pos].toNat < 128
  · rw [decode_ascii s pos h ha] at hr ⊢
    refine ⟨rfl, ?_⟩
    simp at hr
    exact UInt8.toNat_inj.1 (by rw [hr]; rfl)
  · have := (decode_high s pos h (by omega)).1
    omega

def blankR (x : Nat) : Bool := x == 32

def curOf (s : ByteArray) (pos : Nat) : Option Nat → List UInt8
  | none => []
  | some a => (s.data.toList.drop a).take (pos - a)

theorem spans_fields (s : ByteArray) : ∀ (f pos : Nat) (st : Option Nat) (acc : List (Nat × Nat)), s.size ≤ pos + f → pos ≤ s.size → (∀ a, st = some a → a < pos) →
    (Lib.closeSpans s (Lib.spansFromP blankR s f pos st acc)).map (piece s) = acc.map (piece s) ++ fgo (curOf s pos st) (s.data.toList.drop pos) := by
  intro f
  induction f with
  | zero =>
    intro pos st acc hf hp hst
    have hd : s.data.toList.drop pos = [] := List.drop_eq_nil_of_le (by simp; omega)
    rw [hd]
    have hpe : pos = s.size := by omega
    subst hpe
    cases st with
    | none => simp [Lib.spansFromP, Lib.closeSpans, curOf, fgo]
    | some a =>
      have ha := hst a rfl
      have hne : curOf s s.size (some a) ≠ [] := by
        intro e
        have := congrArg List.length e
        simp [curOf] at this
        omega
      rw [fgo_nil_ne _ hne]
      simp [Lib.spansFromP, Lib.closeSpans, curOf, piece_eq]
  | succ f ih =>
    intro pos st acc hf hp hst
    by_cases h : pos < s.size
    · have hw : 1 ≤ (Utf8.decode s pos).2 := by
        by_cases ha : (s[pos]'h).toNat < 128
        · rw [decode_ascii s pos h ha]; exact Nat.le_refl _
        · exact (decode_high s pos h (by omega)).2
      obtain ⟨b1, b2⟩ := decode_bytes s pos h
      unfold Lib.spansFromP
      rw [if_pos h]
      by_cases hr : (Utf8.decode s pos).1 = 32
      · obtain ⟨e1, e2⟩ := decode_blank s pos h hr
        rw [if_pos (by simp [blankR, hr]), e1]
        have hd : s.data.toList.drop pos = 32 :: s.data.toList.drop (pos + 1) := by rw [drop_cons s pos h, e2]
        cases st with
        | none =>
          simp only []
          rw [ih (pos + 1) none acc (by omega) (by omega) (by simp), hd]
          simp [curOf, fgo]
        | some a =>
          have ha := hst a rfl
          simp only []
          rw [ih (pos + 1) none _ (by omega) (by omega) (by simp), hd]
          have hne : curOf s pos (some a) ≠ [] := by
            intro e
            have := congrArg List.length e
            simp [curOf] at this
            omega
          rw [fgo_blank_ne _ _ hne]
          simp [curOf, piece_eq]
      · rw [if_neg (by simp [blankR, hr])]
        have b3 := b2 hr
        have hsplit : s.data.toList.drop pos = (s.data.toList.drop pos).take (Utf8.decode s pos).2 ++ s.data.toList.drop (pos + (Utf8.decode s pos).2) := by
          rw [← List.drop_drop]; exact (List.take_append_drop _ _).symm
        have hno : ∀ x ∈ (s.data.toList.drop pos).take (Utf8.decode s pos).2, x ≠ 32 := by
          intro x hx
          obtain ⟨j, hj, rfl⟩ := List.getElem_of_mem hx
          simp at hj
          have := b3 j (by omega) (by omega)
          simp only [List.getElem_take, List.getElem_drop]
          exact this
        cases st with
        | none =>
          simp only []
          rw [ih _ (some pos) acc (by omega) b1 (by intro a e; cases e; omega)]
          conv => rhs; rw [hsplit, fgo_more _ _ hno]
          simp [curOf]
        | some a =>
          have ha := hst a rfl
          simp only []
          rw [ih _ (some a) acc (by omega) b1 (by intro a' e; cases e; omega)]
          conv => rhs; rw [hsplit, fgo_more _ _ hno]
          congr 2
          simp only [curOf]
          have e1 : pos + (Utf8.decode s pos).2 - a = (pos - a) + (Utf8.decode s pos).2 := by omega
          rw [e1, List.take_add, List.drop_drop]
          congr 3
          omega
    · have hd : s.data.toList.drop pos = [] := List.drop_eq_nil_of_le (by simp; omega)
      rw [Lib.spansFromP_end _ _ _ _ _ _ h, hd]
      have hpe : pos = s.size := by omega
      subst hpe
      cases st with
      | none => simp [Lib.closeSpans, curOf, fgo]
      | some a =>
        have ha := hst a rfl
        have hne : curOf s s.size (some a) ≠ [] := by
          intro e
          have := congrArg List.length e
          simp [curOf] at this
          omega
        rw [fgo_nil_ne _ hne]
        simp [Lib.closeSpans, curOf, piece_eq]

theorem fields_eq (s : ByteArray) : (Lib.goFieldsP blankR s).map (·.data.toList) = fields s.data.toList := by
  have := spans_fields s s.size 0 none [] (by omega) (by omega) (by simp)
  unfold Lib.goFieldsP Lib.spansOfP
  rw [List.map_map]
  have e : ((fun x : ByteArray => x.data.toList) ∘ fun x : Nat × Nat => s.extract x.1 x.2) = piece s := rfl
  rw [e, this]
  simp [curOf, fields]

end Sl
end Go.Proofs.YthmhfilkgggagaaGreatDoor
