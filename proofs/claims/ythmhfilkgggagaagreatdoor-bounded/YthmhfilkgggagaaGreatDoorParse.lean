/-
  Plain: what is read of a text that was written line by line.
-/
import Derived.Test.YthmhfilkgggagaaGreatDoorTurned
namespace Go.Proofs.YthmhfilkgggagaaGreatDoor
open Go.RowKit Go.Maps Go.Sort

/-- A word: not empty, no blank, no end of a line. -/
def WordOk (w : List UInt8) : Prop := w ≠ [] ∧ ∀ x ∈ w, x ≠ 32 ∧ x ≠ 10

/-- Words, with one blank between them. -/
def jn : List (List UInt8) → List UInt8
  | [] => []
  | [w] => w
  | w :: v :: r => w ++ 32 :: jn (v :: r)

theorem join_jn : ∀ ws : List (List UInt8), Lib.join ws [32] = jn ws
  | [] => rfl
  | [w] => by simp [Lib.join, jn, List.intercalate]
  | w :: v :: r => by
    have h := join_jn (v :: r)
    unfold Lib.join List.intercalate at h ⊢
    rw [List.intersperse_cons_cons] 
    simp only [List.flatten_cons, jn, h]
    simp

theorem fgo_word (w r : List UInt8) (hw : WordOk w) : Sl.fgo [] (w ++ 32 :: r) = w :: Sl.fgo [] r := by
  rw [Sl.fgo_more w (32 :: r) (fun x hx => (hw.2 x hx).1) []]
  simp only [List.nil_append]
  exact Sl.fgo_blank_ne w r hw.1

theorem fgo_end (w : List UInt8) (hw : WordOk w) : Sl.fgo [] w = [w] := by
  have := Sl.fgo_more w [] (fun x hx => (hw.2 x hx).1) []
  simp only [List.append_nil, List.nil_append] at this
  rw [this, Sl.fgo_nil_ne w hw.1]

theorem fields_jn : ∀ ws : List (List UInt8), (∀ w ∈ ws, WordOk w) → Sl.fields (jn ws) = ws
  | [], _ => rfl
  | [w], h => fgo_end w (h w (by simp))
  | w :: v :: r, h => by
    show Sl.fgo [] (w ++ 32 :: jn (v :: r)) = _
    rw [fgo_word w _ (h w (by simp))]
    have := fields_jn (v :: r) (fun x hx => h x (by simp at hx ⊢; right; exact hx))
    unfold Sl.fields at this
    rw [this]

/-- A nought ahead of a number. -/
def zw : List UInt8 → List UInt8
  | [] => []
  | y :: t => if 49 ≤ y.toNat ∧ y.toNat ≤ 57 then 48 :: y :: t else y :: t

theorem zw_cons (y : UInt8) (t : List UInt8) : zw (y :: t) = if 49 ≤ y.toNat ∧ y.toNat ≤ 57 then 48 :: y :: t else y :: t := rfl
theorem expand_two (x y : UInt8) (r : List UInt8) : expand (x :: y :: r) = x :: (if x = 32 then 32 :: 32 :: (if 49 ≤ y.toNat ∧ y.toNat ≤ 57 then [48] else []) else []) ++ expand (y :: r) := rfl

theorem zw_ok {w : List UInt8} (h : WordOk w) : WordOk (zw w) := by
  cases w with
  | nil => exact h
  | cons y t =>
    rw [zw_cons]
    split
    · refine ⟨by simp, fun x hx => ?_⟩
      rcases List.mem_cons.1 hx with rfl | hx
      · exact ⟨by decide, by decide⟩
      · exact h.2 x hx
    · exact h

theorem expand_cons (a : UInt8) (s : List UInt8) (h : a ≠ 32) : expand (a :: s) = a :: expand s := by
  cases s with
  | nil => simp [expand]
  | cons y t => simp [expand, h]

theorem expand_app (w s : List UInt8) (h : ∀ x ∈ w, x ≠ 32) : expand (w ++ s) = w ++ expand s := by
  induction w with
  | nil => rfl
  | cons a r ih =>
    rw [List.cons_append, expand_cons a _ (h a (by simp)), ih (fun x hx => h x (by simp [hx]))]
    rfl

theorem jn_head (w : List UInt8) (r : List (List UInt8)) (hw : w ≠ []) : ∃ y t u, w = y :: t ∧ jn (w :: r) = y :: u := by
  cases w with
  | nil => exact absurd rfl hw
  | cons y t =>
    cases r with
    | nil => exact ⟨y, t, t, rfl, rfl⟩
    | cons v r => exact ⟨y, t, t ++ 32 :: jn (v :: r), rfl, rfl⟩

/-- A blank within a line becomes three, and a nought behind them where a number follows. -/
theorem expand_blank (v : List UInt8) (r : List (List UInt8)) (hv : WordOk v) : expand (32 :: jn (v :: r)) = [32, 32, 32] ++ expand (jn (zw v :: r)) := by
  obtain ⟨y, t, u, rfl, e⟩ := jn_head v r hv.1
  rw [e, expand_two]
  simp only [if_true]
  by_cases hd : 49 ≤ y.toNat ∧ y.toNat ≤ 57
  · rw [if_pos hd]
    have ez : zw (y :: t) = 48 :: y :: t := by rw [zw_cons, if_pos hd]
    have ej : jn ((48 :: y :: t) :: r) = 48 :: jn ((y :: t) :: r) := by cases r <;> rfl
    rw [ez, ej, e, expand_cons 48 _ (by decide)]
    simp
  · rw [if_neg hd]
    have ez : zw (y :: t) = y :: t := by rw [zw_cons, if_neg hd]
    rw [ez, e]

theorem fgo_blank (r : List UInt8) : Sl.fgo [] (32 :: r) = Sl.fgo [] r := by simp [Sl.fgo]

theorem fields_expand : ∀ (r : List (List UInt8)) (w : List UInt8), WordOk w → (∀ x ∈ r, WordOk x) → Sl.fgo [] (expand (jn (w :: r)) ++ [32]) = w :: r.map zw
  | [], w, hw, _ => by
    have e := expand_app w [] (fun x hx => (hw.2 x hx).1)
    simp only [List.append_nil, expand] at e
    show Sl.fgo [] (expand w ++ [32]) = _
    rw [e, fgo_word w [] hw]
    rfl
  | v :: r, w, hw, hr => by
    show Sl.fgo [] (expand (w ++ 32 :: jn (v :: r)) ++ [32]) = _
    rw [expand_app w _ (fun x hx => (hw.2 x hx).1), expand_blank v r (hr v (by simp))]
    have := fields_expand r (zw v) (zw_ok (hr v (by simp))) (fun x hx => hr x (by simp [hx]))
    simp only [List.append_assoc, List.cons_append, List.nil_append]
    rw [fgo_word w _ hw, fgo_blank, fgo_blank, this]
    rfl

theorem fields_turn (w : List UInt8) (r : List (List UInt8)) (hw : WordOk w) (hr : ∀ x ∈ r, WordOk x) : Sl.fields ([32] ++ expand (jn (w :: r)) ++ [32]) = w :: r.map zw := by
  show Sl.fgo [] (32 :: (expand (jn (w :: r)) ++ [32])) = _
  rw [fgo_blank, fields_expand r w hw hr]

theorem lgo_line (a b : List UInt8) (h : ∀ x ∈ a, x ≠ 10) : ∀ cur, Sl.lgo cur (a ++ 10 :: b) = (cur ++ a) :: Sl.lgo [] b := by
  induction a with
  | nil => intro cur; simp [Sl.lgo]
  | cons x r ih =>
    intro cur
    have hx := h x (by simp)
    have e : Sl.lgo cur (x :: (r ++ 10 :: b)) = Sl.lgo (cur ++ [x]) (r ++ 10 :: b) := by rw [Sl.lgo, if_neg hx]
    show Sl.lgo cur (x :: (r ++ 10 :: b)) = _
    rw [e, ih (fun y hy => h y (by simp [hy]))]
    simp

theorem lgo_last (a : List UInt8) (h : ∀ x ∈ a, x ≠ 10) : ∀ cur, Sl.lgo cur a = [cur ++ a] := by
  induction a with
  | nil => intro cur; simp [Sl.lgo]
  | cons x r ih =>
    intro cur
    have hx := h x (by simp)
    unfold Sl.lgo
    rw [if_neg hx, ih (fun y hy => h y (by simp [hy]))]
    simp

theorem lines_flat : ∀ (ls : List (List UInt8)) (r : List UInt8), (∀ l ∈ ls, ∀ x ∈ l, x ≠ 10) → Sl.lines (flat ls ++ r) = ls ++ Sl.lines r
  | [], r, _ => rfl
  | l :: ls, r, h => by
    have e : flat (l :: ls) ++ r = l ++ 10 :: (flat ls ++ r) := by simp [flat]
    unfold Sl.lines at *
    rw [e, lgo_line l _ (h l (by simp)) []]
    have := lines_flat ls r (fun l hl => h l (by simp [hl]))
    unfold Sl.lines at this
    rw [this]; rfl

theorem expand_mem : ∀ (l : List UInt8) (x : UInt8), x ∈ expand l → x ∈ l ∨ x = 32 ∨ x = 48
  | [], x, h => by simp [expand] at h
  | [y], x, h => by simp [expand] at h; simp [h]
  | a :: y :: r, x, h => by
    rw [expand_two, List.mem_append] at h
    rcases h with h | h
    · rcases List.mem_cons.1 h with rfl | h
      · simp
      · split at h
        · rcases List.mem_cons.1 h with h | h
          · right; left; exact h
          · rcases List.mem_cons.1 h with h | h
            · right; left; exact h
            · split at h
              · simp at h; right; right; exact h
              · simp at h
        · simp at h
    · rcases expand_mem (y :: r) x h with h | h | h
      · left; simp at h ⊢; right; exact h
      · right; left; exact h
      · right; right; exact h

/-- The lines of what turned makes. -/
def turnLines (ls : List (List UInt8)) : List (List UInt8) := ls.reverse.flatMap fun l => [[32] ++ expand l ++ [32], [32, 32]]

theorem lines_turned (ls : List (List UInt8)) (h : ∀ l ∈ ls, ∀ x ∈ l, x ≠ 10) : Sl.lines (turnT ls) = [35, 32] :: (turnLines ls ++ [[35, 100, 101, 102, 97, 117, 108, 116]]) := by
  have key : ∀ (m : List (List UInt8)) (r : List UInt8), (∀ l ∈ m, ∀ x ∈ l, x ≠ 10) → Sl.lgo [] (m.flatMap turnL ++ r) = (m.flatMap fun l => [[32] ++ expand l ++ [32], [32, 32]]) ++ Sl.lgo [] r := by
    intro m
    induction m with
    | nil => intro r _; rfl
    | cons l m ih =>
      intro r hm
      have e : (l :: m).flatMap turnL ++ r = ([32] ++ expand l ++ [32]) ++ 10 :: ([32, 32] ++ 10 :: (m.flatMap turnL ++ r)) := by simp [turnL]
      rw [e, lgo_line _ _ ?_ [], lgo_line [32, 32] _ (by decide) [], ih r (fun l hl => hm l (by simp [hl]))]
      · simp
      · intro x hx
        simp at hx
        rcases hx with rfl | hx | rfl
        · decide
        · rcases expand_mem l x hx with h2 | rfl | rfl
          · exact hm l (by simp) x h2
          · decide
          · decide
        · decide
  have e : turnT ls = [35, 32] ++ 10 :: (ls.reverse.flatMap turnL ++ [35, 100, 101, 102, 97, 117, 108, 116]) := by simp [turnT, trn]
  unfold Sl.lines turnLines
  rw [e, lgo_line [35, 32] _ (by decide) [], key _ _ (fun l hl => h l (by simpa using hl)), lgo_last [35, 100, 101, 102, 97, 117, 108, 116] (by decide) []]
  rfl

end Go.Proofs.YthmhfilkgggagaaGreatDoor
