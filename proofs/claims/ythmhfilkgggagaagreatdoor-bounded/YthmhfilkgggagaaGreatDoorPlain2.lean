/-
  Plain mathematics on bytes: a text's lines, a line's words, as the library's own functions cut them; nothing of the program is named here.
-/
import Derived.Test.YthmhfilkgggagaaGreatDoorPlain
import Derived.Lib.FieldsP
import Derived.Lib.SplitLaws
namespace Go.Proofs.YthmhfilkgggagaaGreatDoor
namespace Sl

def lgo : List UInt8 → List UInt8 → List (List UInt8)
  | cur, [] => [cur]
  | cur, x :: r => if x = 10 then cur :: lgo [] r else lgo (cur ++ [x]) r
def fgo : List UInt8 → List UInt8 → List (List UInt8)
  | cur, [] => if cur = [] then [] else [cur]
  | cur, x :: r => if x = 32 then (if cur = [] then fgo [] r else cur :: fgo [] r) else fgo (cur ++ [x]) r

/-- A text's lines; a line's words. -/
def lines (l : List UInt8) : List (List UInt8) := lgo [] l
def fields (l : List UInt8) : List (List UInt8) := fgo [] l

def consHead (cur : List UInt8) : List (List UInt8) → List (List UInt8)
  | [] => [cur]
  | h :: t => (cur ++ h) :: t

theorem consHead_nil (l : List (List UInt8)) (h : l ≠ []) : consHead [] l = l := by
  cases l with
  | nil => exact absurd rfl h
  | cons a b => simp [consHead]

theorem lgo_ne (cur l : List UInt8) : lgo cur l ≠ [] := by
  induction l generalizing cur with
  | nil => simp [lgo]
  | cons x r ih => unfold lgo; split <;> simp [ih]

theorem lgo_cur (cur l : List UInt8) : lgo cur l = consHead cur (lgo [] l) := by
  induction l generalizing cur with
  | nil => simp [lgo, consHead]
  | cons x r ih =>
    unfold lgo
    split
    · simp [consHead]
    · rw [ih (cur ++ [x]), ih ([] ++ [x])]
      cases hl : lgo [] r with
      | nil => exact absurd hl (lgo_ne _ _)
      | cons h t => simp [consHead]

theorem index_one_eq (c : UInt8) (l : List UInt8) : Lib.index (c :: l) [c] = 0 := by
  unfold Lib.index; simp [List.isPrefixOf]
theorem index_one_ne (x c : UInt8) (l : List UInt8) (h : x ≠ c) : Lib.index (x :: l) [c] = if Lib.index l [c] == -1 then -1 else Lib.index l [c] + 1 := by
  conv => lhs; unfold Lib.index
  have : List.isPrefixOf [c] (x :: l) = false := by simp [List.isPrefixOf]; exact fun e => h e.symm
  rw [this]; simp
theorem index_one_ge (c : UInt8) (l : List UInt8) : -1 ≤ Lib.index l [c] := by
  induction l with
  | nil => simp [Lib.index]
  | cons x r ih =>
    by_cases h : x = c
    · subst h; rw [index_one_eq]; omega
    · rw [index_one_ne x c r h]; split <;> omega
theorem index_one_mem (c : UInt8) (l : List UInt8) (h : 0 < l.count c) : 0 ≤ Lib.index l [c] := by
  induction l with
  | nil => simp at h
  | cons x r ih =>
    by_cases e : x = c
    · subst e; rw [index_one_eq]; omega
    · rw [index_one_ne x c r e]
      have : 0 < r.count c := by rw [List.count_cons] at h; simp [e] at h; simpa using h
      have := ih this
      rw [if_neg (by rw [beq_iff_eq]; omega)]; omega

theorem splitK_lines (l : List UInt8) : Lib.splitK [10] 0 (l.count 10) l = lines l := by
  unfold lines
  induction l with
  | nil => rfl
  | cons x r ih =>
    by_cases e : x = 10
    · subst e
      have hc : (10 :: r : List UInt8).count 10 = r.count 10 + 1 := by simp
      rw [hc, Lib.splitK, index_one_eq]
      simp only [lgo]
      rw [if_neg (by decide)]
      simp [ih]
    · have hc : (x :: r : List UInt8).count 10 = r.count 10 := by rw [List.count_cons]; simp [e]
      have hl : lgo [] (x :: r) = consHead [x] (lgo [] r) := by
        conv => lhs; unfold lgo
        rw [if_neg e, lgo_cur]; rfl
      rw [hc, hl, ← ih]
      cases hk : r.count 10 with
      | zero => simp [Lib.splitK, consHead]
      | succ k =>
        have h0 := index_one_mem 10 r (by omega)
        have hi := index_one_ne x 10 r e
        rw [if_neg (by rw [beq_iff_eq]; omega)] at hi
        rw [Lib.splitK, Lib.splitK, hi, if_neg (by rw [beq_iff_eq]; omega), if_neg (by rw [beq_iff_eq]; omega)]
        obtain ⟨i, hi2⟩ : ∃ i : Nat, Lib.index r [10] = i := ⟨(Lib.index r [10]).toNat, by omega⟩
        rw [hi2]
        have e1 : ((i : Int) + 1).toNat = i + 1 := by omega
        rw [e1]
        simp [consHead]

theorem ten_data : (⟨#[10]⟩ : ByteArray).data.toList = [10] := rfl

theorem split_lines (s : ByteArray) : (Lib.splitB ⟨#[10]⟩ 0 (Lib.countB s ⟨#[10]⟩) s).map (·.data.toList) = lines s.data.toList := by
  rw [Lib.splitB_data, ten_data]
  have : Lib.countB s ⟨#[10]⟩ = s.data.toList.count 10 := by
    show Lib.count _ _ = _
    rw [ten_data, Lib.count_one]
  rw [this, splitK_lines]

/-! words -/
theorem fgo_more (l r : List UInt8) (h : ∀ x ∈ l, x ≠ 32) (cur : List UInt8) : fgo cur (l ++ r) = fgo (cur ++ l) r := by
  induction l generalizing cur with
  | nil => simp
  | cons x t ih =>
    simp only [List.cons_append]
    conv => lhs; unfold fgo
    rw [if_neg (h x (by simp)), ih (fun y hy => h y (by simp [hy]))]
    simp

theorem fgo_nil_ne (cur : List UInt8) (h : cur ≠ []) : fgo cur [] = [cur] := by unfold fgo; rw [if_neg h]
theorem fgo_blank_ne (cur r : List UInt8) (h : cur ≠ []) : fgo cur (32 :: r) = cur :: fgo [] r := by
  conv => lhs; unfold fgo
  rw [if_pos rfl, if_neg h]

def piece (s : ByteArray) (x : Nat × Nat) : List UInt8 := (s.extract x.1 x.2).data.toList
theorem piece_eq (s : ByteArray) (a b : Nat) : piece s (a, b) = (s.data.toList.drop a).take (b - a) := Lib.extract_data s a b

theorem decode_bytes (s : ByteArray) (pos : Nat) (h : pos < s.size) : pos + (Utf8.decode s pos).2 ≤ s.size ∧ ((Utf8.decode s pos).1 ≠ 32 → ∀ j, j < (Utf8.decode s pos).2 → ∀ hj : pos + j < s.size, s[pos + j] ≠ 32) := by
  by_cases ha : s[pos].toNat < 128
  · rw [decode_ascii s pos h ha]
    refine ⟨by simp; omega, fun hr j hj hj2 => ?_⟩
    simp at hj hr
    subst hj
    intro e
    apply hr
    simp only [Nat.add_zero] at e
    rw [e]; rfl
  · have h0 : s.get! pos = s[pos] := get_at s pos h
    have hb := u8lt s[pos]
    have key : ∀ r k, Utf8.decode s pos = (r, k) → pos + k ≤ s.size ∧ ∀ j, j < k → ∀ hj : pos + j < s.size, 128 ≤ s[pos + j].toNat := by
      intro r k
      unfold Utf8.decode
      simp only [Nat.add_zero, h0]
      rw [if_neg ha]
      have base : ∀ (r' : Nat), (r', 1) = (r, k) → pos + k ≤ s.size ∧ ∀ j, j < k → ∀ hj : pos + j < s.size, 128 ≤ s[pos + j].toNat := by
        intro r' e
        simp at e
        obtain ⟨_, rfl⟩ := e
        refine ⟨by omega, fun j hj hj2 => ?_⟩
        have : j = 0 := by omega
        subst this
        simp only [Nat.add_zero]; omega
      have cont : ∀ i, (decide (pos + i < s.size) && (s.get! (pos + i)).toNat / 64 == 2) = true → ∃ hi : pos + i < s.size, 128 ≤ s[pos + i].toNat := by
        intro i hi
        simp at hi
        obtain ⟨h1, h2⟩ := hi
        refine ⟨h1, ?_⟩
        rw [get_at s _ h1] at h2
        omega
      split
      · rename_i c
        rw [Bool.and_eq_true] at c
        obtain ⟨g1, g2⟩ := cont 1 c.2
        split
        · intro e
          simp at e
          obtain ⟨_, rfl⟩ := e
          refine ⟨by omega, fun j hj hj2 => ?_⟩
          match j, hj with
          | 0, _ => simp only [Nat.add_zero]; omega
          | 1, _ => exact g2
        · exact base _
      · split
        · rename_i c
          simp only [Bool.and_eq_true] at c
          obtain ⟨g1, g2⟩ := cont 1 (by simp only [Bool.and_eq_true]; exact c.1.2)
          obtain ⟨g3, g4⟩ := cont 2 (by simp only [Bool.and_eq_true]; exact c.2)
          split
          · intro e
            simp at e
            obtain ⟨_, rfl⟩ := e
            refine ⟨by omega, fun j hj hj2 => ?_⟩
            match j, hj with
            | 0, _ => simp only [Nat.add_zero]; omega
            | 1, _ => exact g2
            | 2, _ => exact g4
          · exact base _
        · split
          · rename_i c
            simp only [Bool.and_eq_true] at c
            obtain ⟨g1, g2⟩ := cont 1 (by simp only [Bool.and_eq_true]; exact c.1.1.2)
            obtain ⟨g3, g4⟩ := cont 2 (by simp only [Bool.and_eq_true]; exact c.1.2)
            obtain ⟨g5, g6⟩ := cont 3 (by simp only [Bool.and_eq_true]; exact c.2)
            split
            · intro e
              simp at e
              obtain ⟨_, rfl⟩ := e
              refine ⟨by omega, fun j hj hj2 => ?_⟩
              match j, hj with
              | 0, _ => simp only [Nat.add_zero]; omega
              | 1, _ => exact g2
              | 2, _ => exact g4
              | 3, _ => exact g6
            · exact base _
          · exact base _
    obtain ⟨k1, k2⟩ := key _ _ rfl
    refine ⟨k1, fun _ j hj hj2 e => ?_⟩
    have := k2 j hj hj2
    rw [e] at this
    exact absurd this (by decide)

theorem decode_blank (s : ByteArray) (pos : Nat) (h : pos < s.size) (hr : (Utf8.decode s pos).1 = 32) : (Utf8.decode s pos).2 = 1 ∧ s[pos] = 32 := by
  by_cases ha : s[pos].toNat < 128
  · rw [decode_ascii s pos h ha] at hr ⊢
    refine ⟨rfl, ?_⟩
    simp at hr
    exact UInt8.toNat_inj.1 (by rw [hr]; rfl)
  · have := (decode_high s pos h (by omega)).1
    omega

def blankR (x : Nat) : Bool := x == 32

def curOf (s : ByteArray) (pos : Nat) : Option Nat → List UInt8
  | none => []
  | some a => (s.data.toList.drop a).take (pos - a)

theorem spans_fields (s : ByteArray) : ∀ (f pos : Nat) (st : Option Nat) (acc : List (Nat × Nat)), s.size ≤ pos + f → pos ≤ s.size → (∀ a, st = some a → a < pos) →
    (Lib.closeSpans s (Lib.spansFromP blankR s f pos st acc)).map (piece s) = acc.map (piece s) ++ fgo (curOf s pos st) (s.data.toList.drop pos) := by
  intro f
  induction f with
  | zero =>
    intro pos st acc hf hp hst
    have hd : s.data.toList.drop pos = [] := List.drop_eq_nil_of_le (by simp; omega)
    rw [hd]
    have hpe : pos = s.size := by omega
    subst hpe
    cases st with
    | none => simp [Lib.spansFromP, Lib.closeSpans, curOf, fgo]
    | some a =>
      have ha := hst a rfl
      have hne : curOf s s.size (some a) ≠ [] := by
        intro e
        have := congrArg List.length e
        simp [curOf] at this
        omega
      rw [fgo_nil_ne _ hne]
      simp [Lib.spansFromP, Lib.closeSpans, curOf, piece_eq]
  | succ f ih =>
    intro pos st acc hf hp hst
    by_cases h : pos < s.size
    · have hw : 1 ≤ (Utf8.decode s pos).2 := by
        by_cases ha : (s[pos]'h).toNat < 128
        · rw [decode_ascii s pos h ha]; exact Nat.le_refl _
        · exact (decode_high s pos h (by omega)).2
      obtain ⟨b1, b2⟩ := decode_bytes s pos h
      unfold Lib.spansFromP
      rw [if_pos h]
      by_cases hr : (Utf8.decode s pos).1 = 32
      · obtain ⟨e1, e2⟩ := decode_blank s pos h hr
        rw [if_pos (by simp [blankR, hr]), e1]
        have hd : s.data.toList.drop pos = 32 :: s.data.toList.drop (pos + 1) := by rw [drop_cons s pos h, e2]
        cases st with
        | none =>
          simp only []
          rw [ih (pos + 1) none acc (by omega) (by omega) (by simp), hd]
          simp [curOf, fgo]
        | some a =>
          have ha := hst a rfl
          simp only []
          rw [ih (pos + 1) none _ (by omega) (by omega) (by simp), hd]
          have hne : curOf s pos (some a) ≠ [] := by
            intro e
            have := congrArg List.length e
            simp [curOf] at this
            omega
          rw [fgo_blank_ne _ _ hne]
          simp [curOf, piece_eq]
      · rw [if_neg (by simp [blankR, hr])]
        have b3 := b2 hr
        have hsplit : s.data.toList.drop pos = (s.data.toList.drop pos).take (Utf8.decode s pos).2 ++ s.data.toList.drop (pos + (Utf8.decode s pos).2) := by
          rw [← List.drop_drop]; exact (List.take_append_drop _ _).symm
        have hno : ∀ x ∈ (s.data.toList.drop pos).take (Utf8.decode s pos).2, x ≠ 32 := by
          intro x hx
          obtain ⟨j, hj, rfl⟩ := List.getElem_of_mem hx
          simp at hj
          have := b3 j (by omega) (by omega)
          simp only [List.getElem_take, List.getElem_drop]
          exact this
        cases st with
        | none =>
          simp only []
          rw [ih _ (some pos) acc (by omega) b1 (by intro a e; cases e; omega)]
          conv => rhs; rw [hsplit, fgo_more _ _ hno]
          simp [curOf]
        | some a =>
          have ha := hst a rfl
          simp only []
          rw [ih _ (some a) acc (by omega) b1 (by intro a' e; cases e; omega)]
          conv => rhs; rw [hsplit, fgo_more _ _ hno]
          congr 2
          simp only [curOf]
          have e1 : pos + (Utf8.decode s pos).2 - a = (pos - a) + (Utf8.decode s pos).2 := by omega
          rw [e1, List.take_add, List.drop_drop]
          congr 3
          omega
    · have hd : s.data.toList.drop pos = [] := List.drop_eq_nil_of_le (by simp; omega)
      rw [Lib.spansFromP_end _ _ _ _ _ _ h, hd]
      have hpe : pos = s.size := by omega
      subst hpe
      cases st with
      | none => simp [Lib.closeSpans, curOf, fgo]
      | some a =>
        have ha := hst a rfl
        have hne : curOf s s.size (some a) ≠ [] := by
          intro e
          have := congrArg List.length e
          simp [curOf] at this
          omega
        rw [fgo_nil_ne _ hne]
        simp [Lib.closeSpans, curOf, piece_eq]

theorem fields_eq (s : ByteArray) : (Lib.goFieldsP blankR s).map (·.data.toList) = fields s.data.toList := by
  have := spans_fields s s.size 0 none [] (by omega) (by omega) (by simp)
  unfold Lib.goFieldsP Lib.spansOfP
  rw [List.map_map]
  have e : ((fun x : ByteArray => x.data.toList) ∘ fun x : Nat × Nat => s.extract x.1 x.2) = piece s := rfl
  rw [e, this]
  simp [curOf, fields]

end Sl
end Go.Proofs.YthmhfilkgggagaaGreatDoor
