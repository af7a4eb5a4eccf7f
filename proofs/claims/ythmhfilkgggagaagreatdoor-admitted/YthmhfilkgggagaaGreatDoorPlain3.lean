/-
  Plain mathematics: what all the lines of a text say, one behind the other; how long lines and words are.
-/
import Derived.Test.YthmhfilkgggagaaGreatDoorPlA
import Derived.Test.YthmhfilkgggagaaGreatDoorLine
namespace Go.Proofs.YthmhfilkgggagaaGreatDoor
namespace Sl

/-- What a line says: its number, of what, which limit. -/
structure Saying where
  at_ : Nat
  about : Subj
  lim : Lim

def nothing (ws : List (List UInt8)) : Bool := match ws with
  | [] => true
  | w :: _ => Lib.hasPrefix w [35]

/-- The lines from number i + 1 on: what was said, or the number of the first bad one. -/
def scan : Nat → List (List UInt8) → List Saying → List Saying × Nat
  | _, [], acc => (acc, 0)
  | i, l :: r, acc => if nothing (fields l) = true then scan (i + 1) r acc else match line (fields l) with
    | none => ([], i + 1)
    | some (s, m) => scan (i + 1) r (acc ++ [⟨i + 1, s, m⟩])

theorem lgo_mem (l : List UInt8) : ∀ cur x, x ∈ lgo cur l → x.length ≤ cur.length + l.length := by
  induction l with
  | nil => intro cur x h; simp [lgo] at h; subst h; simp
  | cons c r ih =>
    intro cur x h
    unfold lgo at h
    split at h
    · rcases List.mem_cons.1 h with rfl | h
      · simp
      · have := ih _ _ h; simp at *; omega
    · have := ih _ _ h; simp at *; omega
theorem lgo_len (l : List UInt8) : ∀ cur, (lgo cur l).length ≤ l.length + 1 := by
  induction l with
  | nil => intro cur; simp [lgo]
  | cons c r ih =>
    intro cur
    unfold lgo
    split
    · have := ih []; simp; omega
    · have := ih (cur ++ [c]); simp; omega
theorem fgo_mem (l : List UInt8) : ∀ cur x, x ∈ fgo cur l → x.length ≤ cur.length + l.length := by
  induction l with
  | nil => intro cur x h; simp [fgo] at h; simp [h.2]
  | cons c r ih =>
    intro cur x h
    unfold fgo at h
    split at h
    · split at h
      · have := ih _ _ h; simp at *; omega
      · rcases List.mem_cons.1 h with rfl | h
        · simp
        · have := ih _ _ h; simp at *; omega
    · have := ih _ _ h; simp at *; omega
theorem fgo_len (l : List UInt8) : ∀ cur, (fgo cur l).length ≤ l.length + 1 := by
  induction l with
  | nil => intro cur; simp [fgo]; split <;> simp
  | cons c r ih =>
    intro cur
    unfold fgo
    split
    · split
      · have := ih []; simp; omega
      · have := ih []; simp; omega
    · have := ih (cur ++ [c]); simp; omega

theorem fgo_ne (l : List UInt8) : ∀ cur x, x ∈ fgo cur l → x ≠ [] := by
  induction l with
  | nil => intro cur x h; simp [fgo] at h; rw [h.2]; exact h.1
  | cons c r ih =>
    intro cur x h
    unfold fgo at h
    split at h
    · split at h
      · exact ih _ _ h
      · rcases List.mem_cons.1 h with rfl | h
        · assumption
        · exact ih _ _ h
    · exact ih _ _ h

end Sl

def sayCells (a : Sl.Saying) : List Value := [.int .i64 a.at_, .int .i64 a.about.kind, .int .i64 a.about.cls, .string ⟨a.about.org.toArray⟩, .string ⟨a.about.ten.toArray⟩, .int .i64 a.lim.rate, .int .i64 a.lim.burst]
def sayAll (l : List Sl.Saying) : List Value := l.flatMap sayCells

theorem sayAll_len (l : List Sl.Saying) : (sayAll l).length = l.length * 7 := by
  unfold sayAll
  induction l with
  | nil => rfl
  | cons a r ih => rw [List.flatMap_cons, List.length_append, ih]; simp [sayCells]; omega

theorem sayAll_snoc (l : List Sl.Saying) (a : Sl.Saying) : sayAll (l ++ [a]) = sayAll l ++ sayCells a := by simp [sayAll]

theorem size_data (s : ByteArray) : s.size = s.data.toList.length := rfl

end Go.Proofs.YthmhfilkgggagaaGreatDoor
