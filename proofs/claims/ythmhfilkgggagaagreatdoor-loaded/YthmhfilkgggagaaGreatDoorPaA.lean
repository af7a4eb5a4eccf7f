/-
  Plain: what is read of a text that was written line by line.
  Plain: a line that was written is read as what it says; many lines, as all that they say.
-/
import Derived.Test.YthmhfilkgggagaaGreatDoorTurned
namespace Go.Proofs.YthmhfilkgggagaaGreatDoor
open Go.RowKit Go.Maps Go.Sort

/-- A word: not empty, no blank, no end of a line. -/
def WordOk (w : List UInt8) : Prop := w ≠ [] ∧ ∀ x ∈ w, x ≠ 32 ∧ x ≠ 10

/-- Words, with one blank between them. -/
def jn : List (List UInt8) → List UInt8
  | [] => []
  | [w] => w
  | w :: v :: r => w ++ 32 :: jn (v :: r)

theorem join_jn : ∀ ws : List (List UInt8), Lib.join ws [32] = jn ws
  | [] => rfl
  | [w] => by simp [Lib.join, jn, List.intercalate]
  | w :: v :: r => by
    have h := join_jn (v :: r)
    unfold Lib.join List.intercalate at h ⊢
    rw [List.intersperse_cons_cons] 
    simp only [List.flatten_cons, jn, h]
    simp

theorem fgo_word (w r : List UInt8) (hw : WordOk w) : Sl.fgo [] (w ++ 32 :: r) = w :: Sl.fgo [] r := by
  rw [Sl.fgo_more w (32 :: r) (fun x hx => (hw.2 x hx).1) []]
  simp only [List.nil_append]
  exact Sl.fgo_blank_ne w r hw.1

theorem fgo_end (w : List UInt8) (hw : WordOk w) : Sl.fgo [] w = [w] := by
  have := Sl.fgo_more w [] (fun x hx => (hw.2 x hx).1) []
  simp only [List.append_nil, List.nil_append] at this
  rw [this, Sl.fgo_nil_ne w hw.1]

theorem fields_jn : ∀ ws : List (List UInt8), (∀ w ∈ ws, WordOk w) → Sl.fields (jn ws) = ws
  | [], _ => rfl
  | [w], h => fgo_end w (h w (by simp))
  | w :: v :: r, h => by
    show Sl.fgo [] (w ++ 32 :: jn (v :: r)) = _
    rw [fgo_word w _ (h w (by simp))]
    have := fields_jn (v :: r) (fun x hx => h x (by simp at hx ⊢; right; exact hx))
    unfold Sl.fields at this
    rw [this]

/-- A nought ahead of a number. -/
def zw : List UInt8 → List UInt8
  | [] => []
  | y :: t => if 49 ≤ y.toNat ∧ y.toNat ≤ 57 then 48 :: y :: t else y :: t

theorem zw_cons (y : UInt8) (t : List UInt8) : zw (y :: t) = if 49 ≤ y.toNat ∧ y.toNat ≤ 57 then 48 :: y :: t else y :: t := rfl
theorem expand_two (x y : UInt8) (r : List UInt8) : expand (x :: y :: r) = x :: (if x = 32 then 32 :: 32 :: (if 49 ≤ y.toNat ∧ y.toNat ≤ 57 then [48] else []) else []) ++ expand (y :: r) := rfl

theorem zw_ok {w : List UInt8} (h : WordOk w) : WordOk (zw w) := by
  cases w with
  | nil => exact h
  | cons y t =>
    rw [zw_cons]
    split
    · refine ⟨by simp, fun x hx => ?_⟩
      rcases List.mem_cons.1 hx with rfl | hx
      · exact ⟨by decide, by decide⟩
      · exact h.2 x hx
    · exact h

theorem expand_cons (a : UInt8) (s : List UInt8) (h : a ≠ 32) : expand (a :: s) = a :: expand s := by
  cases s with
  | nil => simp [expand]
  | cons y t => simp [expand, h]

theorem expand_app (w s : List UInt8) (h : ∀ x ∈ w, x ≠ 32) : expand (w ++ s) = w ++ expand s := by
  induction w with
  | nil => rfl
  | cons a r ih =>
    rw [List.cons_append, expand_cons a _ (h a (by simp)), ih (fun x hx => h x (by simp [hx]))]
    rfl

theorem jn_head (w : List UInt8) (r : List (List UInt8)) (hw : w ≠ []) : ∃ y t u, w = y :: t ∧ jn (w :: r) = y :: u := by
  cases w with
  | nil => exact absurd rfl hw
  | cons y t =>
    cases r with
    | nil => exact ⟨y, t, t, rfl, rfl⟩
    | cons v r => exact ⟨y, t, t ++ 32 :: jn (v :: r), rfl, rfl⟩

/-- A blank within a line becomes three, and a nought behind them where a number follows. -/
theorem expand_blank (v : List UInt8) (r : List (List UInt8)) (hv : WordOk v) : expand (32 :: jn (v :: r)) = [32, 32, 32] ++ expand (jn (zw v :: r)) := by
  obtain ⟨y, t, u, rfl, e⟩ := jn_head v r hv.1
  rw [e, expand_two]
  simp only [if_true]
  by_cases hd : 49 ≤ y.toNat ∧ y.toNat ≤ 57
  · rw [if_pos hd]
    have ez : zw (y :: t) = 48 :: y :: t := by rw [zw_cons, if_pos hd]
    have ej : jn ((48 :: y :: t) :: r) = 48 :: jn ((y :: t) :: r) := by cases r <;> rfl
    rw [ez, ej, e, expand_cons 48 _ (by decide)]
    simp
  · rw [if_neg hd]
    have ez : zw (y :: t) = y :: t := by rw [zw_cons, if_neg hd]
    rw [ez, e]

theorem fgo_blank (r : List UInt8) : Sl.fgo [] (32 :: r) = Sl.fgo [] r := by simp [Sl.fgo]

theorem fields_expand : ∀ (r : List (List UInt8)) (w : List UInt8), WordOk w → (∀ x ∈ r, WordOk x) → Sl.fgo [] (expand (jn (w :: r)) ++ [32]) = w :: r.map zw
  | [], w, hw, _ => by
    have e := expand_app w [] (fun x hx => (hw.2 x hx).1)
    simp only [List.append_nil, expand] at e
    show Sl.fgo [] (expand w ++ [32]) = _
    rw [e, fgo_word w [] hw]
    rfl
  | v :: r, w, hw, hr => by
    show Sl.fgo [] (expand (w ++ 32 :: jn (v :: r)) ++ [32]) = _
    rw [expand_app w _ (fun x hx => (hw.2 x hx).1), expand_blank v r (hr v (by simp))]
    have := fields_expand r (zw v) (zw_ok (hr v (by simp))) (fun x hx => hr x (by simp [hx]))
    simp only [List.append_assoc, List.cons_append, List.nil_append]
    rw [fgo_word w _ hw, fgo_blank, fgo_blank, this]
    rfl

theorem fields_turn (w : List UInt8) (r : List (List UInt8)) (hw : WordOk w) (hr : ∀ x ∈ r, WordOk x) : Sl.fields ([32] ++ expand (jn (w :: r)) ++ [32]) = w :: r.map zw := by
  show Sl.fgo [] (32 :: (expand (jn (w :: r)) ++ [32])) = _
  rw [fgo_blank, fields_expand r w hw hr]

theorem lgo_line (a b : List UInt8) (h : ∀ x ∈ a, x ≠ 10) : ∀ cur, Sl.lgo cur (a ++ 10 :: b) = (cur ++ a) :: Sl.lgo [] b := by
  induction a with
  | nil => intro cur; simp [Sl.lgo]
  | cons x r ih =>
    intro cur
    have hx := h x (by simp)
    have e : Sl.lgo cur (x :: (r ++ 10 :: b)) = Sl.lgo (cur ++ [x]) (r ++ 10 :: b) := by rw [Sl.lgo, if_neg hx]
    show Sl.lgo cur (x :: (r ++ 10 :: b)) = _
    rw [e, ih (fun y hy => h y (by simp [hy]))]
    simp

theorem lgo_last (a : List UInt8) (h : ∀ x ∈ a, x ≠ 10) : ∀ cur, Sl.lgo cur a = [cur ++ a] := by
  induction a with
  | nil => intro cur; simp [Sl.lgo]
  | cons x r ih =>
    intro cur
    have hx := h x (by simp)
    unfold Sl.lgo
    rw [if_neg hx, ih (fun y hy => h y (by simp [hy]))]
    simp

theorem lines_flat : ∀ (ls : List (List UInt8)) (r : List UInt8), (∀ l ∈ ls, ∀ x ∈ l, x ≠ 10) → Sl.lines (flat ls ++ r) = ls ++ Sl.lines r
  | [], r, _ => rfl
  | l :: ls, r, h => by
    have e : flat (l :: ls) ++ r = l ++ 10 :: (flat ls ++ r) := by simp [flat]
    unfold Sl.lines at *
    rw [e, lgo_line l _ (h l (by simp)) []]
    have := lines_flat ls r (fun l hl => h l (by simp [hl]))
    unfold Sl.lines at this
    rw [this]; rfl

theorem expand_mem : ∀ (l : List UInt8) (x : UInt8), x ∈ expand l → x ∈ l ∨ x = 32 ∨ x = 48
  | [], x, h => by simp [expand] at h
  | [y], x, h => by simp [expand] at h; simp [h]
  | a :: y :: r, x, h => by
    rw [expand_two, List.mem_append] at h
    rcases h with h | h
    · rcases List.mem_cons.1 h with rfl | h
      · simp
      · split at h
        · rcases List.mem_cons.1 h with h | h
          · right; left; exact h
          · rcases List.mem_cons.1 h with h | h
            · right; left; exact h
            · split at h
              · simp at h; right; right; exact h
              · simp at h
        · simp at h
    · rcases expand_mem (y :: r) x h with h | h | h
      · left; simp at h ⊢; right; exact h
      · right; left; exact h
      · right; right; exact h

/-- The lines of what turned makes. -/
def turnLines (ls : List (List UInt8)) : List (List UInt8) := ls.reverse.flatMap fun l => [[32] ++ expand l ++ [32], [32, 32]]

theorem lines_turned (ls : List (List UInt8)) (h : ∀ l ∈ ls, ∀ x ∈ l, x ≠ 10) : Sl.lines (turnT ls) = [35, 32] :: (turnLines ls ++ [[35, 100, 101, 102, 97, 117, 108, 116]]) := by
  have key : ∀ (m : List (List UInt8)) (r : List UInt8), (∀ l ∈ m, ∀ x ∈ l, x ≠ 10) → Sl.lgo [] (m.flatMap turnL ++ r) = (m.flatMap fun l => [[32] ++ expand l ++ [32], [32, 32]]) ++ Sl.lgo [] r := by
    intro m
    induction m with
    | nil => intro r _; rfl
    | cons l m ih =>
      intro r hm
      have e : (l :: m).flatMap turnL ++ r = ([32] ++ expand l ++ [32]) ++ 10 :: ([32, 32] ++ 10 :: (m.flatMap turnL ++ r)) := by simp [turnL]
      rw [e, lgo_line _ _ ?_ [], lgo_line [32, 32] _ (by decide) [], ih r (fun l hl => hm l (by simp [hl]))]
      · simp
      · intro x hx
        simp at hx
        rcases hx with rfl | hx | rfl
        · decide
        · rcases expand_mem l x hx with h2 | rfl | rfl
          · exact hm l (by simp) x h2
          · decide
          · decide
        · decide
  have e : turnT ls = [35, 32] ++ 10 :: (ls.reverse.flatMap turnL ++ [35, 100, 101, 102, 97, 117, 108, 116]) := by simp [turnT, trn]
  unfold Sl.lines turnLines
  rw [e, lgo_line [35, 32] _ (by decide) [], key _ _ (fun l hl => h l (by simpa using hl)), lgo_last [35, 100, 101, 102, 97, 117, 108, 116] (by decide) []]
  rfl

end Go.Proofs.YthmhfilkgggagaaGreatDoor

namespace Go.Proofs.YthmhfilkgggagaaGreatDoor
open Go.RowKit Go.Maps Go.Sort

theorem numTo_app (x y : List UInt8) : ∀ k, Sl.numTo k (x ++ y) = (Sl.numTo k x).bind fun m => Sl.numTo m y := by
  induction x with
  | nil => intro k; rfl
  | cons c r ih =>
    intro k
    have e : ∀ z, Sl.numTo k (c :: z) = if Sl.digC c = true then Sl.numTo (k * 10 + (c.toNat - 48)) z else none := fun _ => rfl
    show Sl.numTo k (c :: (r ++ y)) = _
    rw [e, e]
    split
    · rw [ih]
    · rfl

theorem digit_ok (d : Nat) (h : d < 10) : Sl.digC (UInt8.ofNat (48 + d)) = true ∧ (UInt8.ofNat (48 + d)).toNat = 48 + d := by
  match d, h with
  | 0, _ => decide
  | 1, _ => decide
  | 2, _ => decide
  | 3, _ => decide
  | 4, _ => decide
  | 5, _ => decide
  | 6, _ => decide
  | 7, _ => decide
  | 8, _ => decide
  | 9, _ => decide

theorem numTo_dec (n : Nat) : Sl.numTo 0 (Lib.decDigits n) = some n := by
  induction n using Nat.strongRecOn with
  | _ n ih =>
    by_cases h : n < 10
    · rw [Lib.decDigits_one h]
      obtain ⟨h1, h2⟩ := digit_ok n h
      simp only [Sl.numTo, h1, if_true, h2]
      simp
    · rw [Lib.decDigits, dif_neg h, numTo_app, ih (n / 10) (by omega)]
      obtain ⟨h1, h2⟩ := digit_ok (n % 10) (by omega)
      simp only [Option.bind, Sl.numTo, h1, if_true, h2]
      congr 1
      omega

theorem dec_mem (n : Nat) : ∀ x ∈ Lib.decDigits n, 48 ≤ x.toNat ∧ x.toNat ≤ 57 := by
  induction n using Nat.strongRecOn with
  | _ n ih =>
    by_cases h : n < 10
    · rw [Lib.decDigits_one h]
      intro x hx
      simp only [List.mem_singleton] at hx
      subst hx
      rw [(digit_ok n h).2]; omega
    · rw [Lib.decDigits, dif_neg h]
      intro x hx
      rcases List.mem_append.1 hx with hx | hx
      · exact ih (n / 10) (by omega) x hx
      · simp only [List.mem_singleton] at hx
        subst hx
        rw [(digit_ok (n % 10) (by omega)).2]; omega

theorem dec_head (n : Nat) (hn : 1 ≤ n) : ∃ y t, Lib.decDigits n = y :: t ∧ 49 ≤ y.toNat ∧ y.toNat ≤ 57 := by
  induction n using Nat.strongRecOn with
  | _ n ih =>
    by_cases h : n < 10
    · refine ⟨_, [], Lib.decDigits_one h, ?_⟩
      rw [(digit_ok n h).2]; omega
    · obtain ⟨y, t, e, hy⟩ := ih (n / 10) (by omega) (by omega)
      refine ⟨y, t ++ [UInt8.ofNat (48 + n % 10)], ?_, hy⟩
      rw [Lib.decDigits, dif_neg h, e]; rfl

theorem dec_ok (n : Nat) (hn : 1 ≤ n) : WordOk (Lib.decDigits n) := by
  obtain ⟨y, t, e, _⟩ := dec_head n hn
  refine ⟨by rw [e]; simp, fun x hx => ?_⟩
  have := dec_mem n x hx
  refine ⟨fun h => ?_, fun h => ?_⟩
  · rw [h] at this; exact absurd this (by decide)
  · rw [h] at this; exact absurd this (by decide)

theorem zw_dec (n : Nat) (hn : 1 ≤ n) : zw (Lib.decDigits n) = 48 :: Lib.decDigits n := by
  obtain ⟨y, t, e, hy⟩ := dec_head n hn
  rw [e, zw_cons, if_pos hy]

theorem number_dec (n : Nat) (h1 : 1 ≤ n) (h2 : n ≤ 50) : Sl.number 1000000 (Lib.decDigits n) = n := by
  have hl : (Lib.decDigits n).length ≤ 2 := dec_len n 1 (by omega)
  unfold Sl.number
  rw [if_neg (by omega), numTo_dec]
  simp only []
  rw [if_pos (by omega)]

theorem number_zdec (n : Nat) (h1 : 1 ≤ n) (h2 : n ≤ 50) : Sl.number 1000000 (48 :: Lib.decDigits n) = n := by
  have hl : (Lib.decDigits n).length ≤ 2 := dec_len n 1 (by omega)
  have e : Sl.numTo 0 (48 :: Lib.decDigits n) = some n := by
    have : Sl.numTo 0 (48 :: Lib.decDigits n) = Sl.numTo 0 (Lib.decDigits n) := rfl
    rw [this, numTo_dec]
  unfold Sl.number
  rw [if_neg (by simp; omega), e]
  simp only []
  rw [if_pos (by omega)]

/-- What a line may speak of. -/
structure OkN (s : Sl.Subj) : Prop where
  front : (∀ w ∈ frontW s, WordOk w ∧ zw w = w)
  back : Sl.subject (frontW s) = some s
  lead : ∃ w r, frontW s = w :: r ∧ Lib.hasPrefix w [35] = false
  ok : OkS s

theorem line_read (s : Sl.Subj) (d1 d2 : List UInt8) (m : Sl.Lim) (hs : Sl.subject (frontW s) = some s) (h1 : Sl.number 1000000 d1 = m.rate) (h2 : Sl.number 1000000 d2 = m.burst) (hm : 0 < m.rate ∧ 0 < m.burst) : Sl.line (frontW s ++ [d1, d2]) = some (s, m) := by
  unfold Sl.line
  simp only [List.reverse_append, List.reverse_cons, List.reverse_nil, List.nil_append, List.cons_append, List.reverse_reverse, hs, h1, h2]
  rw [if_pos hm]

/-- A line, without its end. -/
def lineW (x : Sl.Subj × Sl.Lim) : List (List UInt8) := frontW x.1 ++ [Lib.decDigits x.2.rate, Lib.decDigits x.2.burst]
def lineB (x : Sl.Subj × Sl.Lim) : List UInt8 := jn (lineW x)

theorem lineText_eq (s : Sl.Subj) (m : Sl.Lim) : lineText s m = lineB (s, m) ++ [10] := by
  unfold lineText lineB lineW; rw [join_jn]

/-- Something that is said, with a limit of the dice. -/
def OkE (x : Sl.Subj × Sl.Lim) : Prop := OkN x.1 ∧ OkLim x.2

theorem OkE.words {x : Sl.Subj × Sl.Lim} (h : OkE x) : ∀ w ∈ lineW x, WordOk w := by
  intro w hw
  unfold lineW at hw
  rcases List.mem_append.1 hw with hw | hw
  · exact (h.1.front w hw).1
  · simp only [List.mem_cons, List.not_mem_nil, or_false] at hw
    rcases hw with rfl | rfl
    · exact dec_ok _ h.2.1.1
    · exact dec_ok _ h.2.2.1

theorem OkE.fields {x : Sl.Subj × Sl.Lim} (h : OkE x) : Sl.fields (lineB x) = lineW x := fields_jn _ h.words

theorem OkE.head {x : Sl.Subj × Sl.Lim} (h : OkE x) : ∃ w r, lineW x = w :: r ∧ Lib.hasPrefix w [35] = false := by
  obtain ⟨w, r, e, hp⟩ := h.1.lead
  exact ⟨w, r ++ [Lib.decDigits x.2.rate, Lib.decDigits x.2.burst], by unfold lineW; rw [e]; rfl, hp⟩

theorem OkE.read {x : Sl.Subj × Sl.Lim} (h : OkE x) : Sl.nothing (Sl.fields (lineB x)) = false ∧ Sl.line (Sl.fields (lineB x)) = some x := by
  obtain ⟨w, r, e, hp⟩ := h.head
  refine ⟨by rw [h.fields, e]; exact hp, ?_⟩
  rw [h.fields]
  exact line_read x.1 _ _ x.2 h.1.back (number_dec _ h.2.1.1 h.2.1.2) (number_dec _ h.2.2.1 (by have := h.2.2.2; omega)) ⟨h.2.1.1, h.2.2.1⟩

theorem OkE.turned {x : Sl.Subj × Sl.Lim} (h : OkE x) : Sl.nothing (Sl.fields ([32] ++ expand (lineB x) ++ [32])) = false ∧ Sl.line (Sl.fields ([32] ++ expand (lineB x) ++ [32])) = some x := by
  obtain ⟨w, r, e, hp⟩ := h.1.lead
  have hw : WordOk w := (h.1.front w (by rw [e]; simp)).1
  have e2 : lineW x = w :: (r ++ [Lib.decDigits x.2.rate, Lib.decDigits x.2.burst]) := by unfold lineW; rw [e]; rfl
  have hr : ∀ y ∈ r ++ [Lib.decDigits x.2.rate, Lib.decDigits x.2.burst], WordOk y := fun y hy => h.words y (by rw [e2]; simp at hy ⊢; right; exact hy)
  have ez : r.map zw = r := by
    have : r.map zw = r.map id := List.map_congr_left (fun y hy => (h.1.front y (by rw [e]; simp [hy])).2)
    rw [this]; simp
  have ef : Sl.fields ([32] ++ expand (lineB x) ++ [32]) = frontW x.1 ++ [48 :: Lib.decDigits x.2.rate, 48 :: Lib.decDigits x.2.burst] := by
    unfold lineB
    rw [e2, fields_turn w _ hw hr, e]
    simp [ez, zw_dec _ h.2.1.1, zw_dec _ h.2.2.1]
  rw [ef]
  refine ⟨by rw [e]; exact hp, ?_⟩
  exact line_read x.1 _ _ x.2 h.1.back (number_zdec _ h.2.1.1 h.2.1.2) (number_zdec _ h.2.2.1 (by have := h.2.2.2; omega)) ⟨h.2.1.1, h.2.2.1⟩

/-- What lines say, from line i + 1 on; so, every other line. -/
def say : Nat → List (Sl.Subj × Sl.Lim) → List Sl.Saying
  | _, [] => []
  | i, x :: r => ⟨i + 1, x.1, x.2⟩ :: say (i + 1) r
def say2 : Nat → List (Sl.Subj × Sl.Lim) → List Sl.Saying
  | _, [] => []
  | i, x :: r => ⟨i + 1, x.1, x.2⟩ :: say2 (i + 2) r

theorem scan_skip (i : Nat) (l : List UInt8) (r : List (List UInt8)) (acc : List Sl.Saying) (h : Sl.nothing (Sl.fields l) = true) : Sl.scan i (l :: r) acc = Sl.scan (i + 1) r acc := by
  rw [Sl.scan, if_pos h]

theorem scan_line (i : Nat) (l : List UInt8) (r : List (List UInt8)) (acc : List Sl.Saying) (x : Sl.Subj × Sl.Lim) (h : Sl.nothing (Sl.fields l) = false) (h2 : Sl.line (Sl.fields l) = some x) : Sl.scan i (l :: r) acc = Sl.scan (i + 1) r (acc ++ [⟨i + 1, x.1, x.2⟩]) := by
  obtain ⟨s, m⟩ := x
  rw [Sl.scan, if_neg (by rw [h]; simp), h2]

theorem scan_say : ∀ (es : List (Sl.Subj × Sl.Lim)) (i : Nat) (acc : List Sl.Saying) (rest : List (List UInt8)), (∀ x ∈ es, OkE x) → Sl.scan i (es.map lineB ++ rest) acc = Sl.scan (i + es.length) rest (acc ++ say i es)
  | [], i, acc, rest, _ => by simp [say]
  | x :: r, i, acc, rest, h => by
    obtain ⟨h1, h2⟩ := (h x (by simp)).read
    show Sl.scan i (lineB x :: (r.map lineB ++ rest)) acc = _
    rw [scan_line _ _ _ _ x h1 h2, scan_say r (i + 1) _ rest (fun y hy => h y (by simp [hy]))]
    have e : i + 1 + r.length = i + (x :: r).length := by simp; omega
    rw [e]
    simp [say]

theorem scan_say2 : ∀ (es : List (Sl.Subj × Sl.Lim)) (i : Nat) (acc : List Sl.Saying) (rest : List (List UInt8)), (∀ x ∈ es, OkE x) → Sl.scan i ((es.flatMap fun x => [[32] ++ expand (lineB x) ++ [32], [32, 32]]) ++ rest) acc = Sl.scan (i + 2 * es.length) rest (acc ++ say2 i es)
  | [], i, acc, rest, _ => by simp [say2]
  | x :: r, i, acc, rest, h => by
    obtain ⟨h1, h2⟩ := (h x (by simp)).turned
    have hb : Sl.nothing (Sl.fields [32, 32]) = true := by decide
    show Sl.scan i (([32] ++ expand (lineB x) ++ [32]) :: [32, 32] :: ((r.flatMap fun x => [[32] ++ expand (lineB x) ++ [32], [32, 32]]) ++ rest)) acc = _
    rw [scan_line _ _ _ _ x h1 h2, scan_skip _ _ _ _ hb, scan_say2 r (i + 1 + 1) _ rest (fun y hy => h y (by simp [hy]))]
    have e : i + 1 + 1 + 2 * r.length = i + 2 * (x :: r).length := by simp; omega
    rw [e]
    simp [say2]

theorem say_map : ∀ (es : List (Sl.Subj × Sl.Lim)) (i : Nat), (say i es).map (fun a => (a.about, a.lim)) = es
  | [], _ => rfl
  | x :: r, i => by simp [say, say_map r]

theorem say2_map : ∀ (es : List (Sl.Subj × Sl.Lim)) (i : Nat), (say2 i es).map (fun a => (a.about, a.lim)) = es
  | [], _ => rfl
  | x :: r, i => by simp [say2, say2_map r]

theorem look_none_iff (l : List (Sl.Subj × Sl.Lim)) (s : Sl.Subj) : look l s = none ↔ ∀ x ∈ l, x.1 ≠ s := by
  unfold look
  rw [Option.map_eq_none_iff, List.find?_eq_none]
  constructor
  · intro h x hx e
    exact h x hx ((Sl.sameS_iff _ _).2 e)
  · intro h x hx e
    exact h x hx ((Sl.sameS_iff _ _).1 e)

theorem gather_says : ∀ (ss : List Sl.Saying) (acc : List (Sl.Subj × Sl.Lim)) (rest : List Sl.Saying), ((acc ++ ss.map fun a => (a.about, a.lim)).Pairwise fun a b => a.1 ≠ b.1) → gatherS (ss ++ rest) acc = gatherS rest (acc ++ ss.map fun a => (a.about, a.lim))
  | [], acc, rest, _ => by simp
  | a :: r, acc, rest, h => by
    have hn : look acc a.about = none := by
      rw [look_none_iff]
      intro x hx
      rw [List.pairwise_append] at h
      exact h.2.2 x hx (a.about, a.lim) (by simp)
    have e : gatherS (a :: (r ++ rest)) acc = gatherS (r ++ rest) (acc ++ [(a.about, a.lim)]) := by rw [gatherS, hn]; simp
    show gatherS (a :: (r ++ rest)) acc = _
    rw [e, gather_says r (acc ++ [(a.about, a.lim)]) rest (by simpa using h)]
    simp

end Go.Proofs.YthmhfilkgggagaaGreatDoor
