/-
  quota.Read: a table out of a text of limits, or the error and its line.
-/
import Derived.Test.YthmhfilkgggagaaGreatDoorDefaults
namespace Go.Proofs.YthmhfilkgggagaaGreatDoor
open Go.RowKit Go.Maps

theorem owner_ok {l : List (List UInt8)} {c : Nat} {s : Sl.Subj} (h : Sl.owner l c = some s) (hc : c < 2) (hl : ∀ x ∈ l, x.length ≤ 2000) : OkS s := by
  unfold Sl.owner at h
  split at h
  · next x y =>
    split at h
    · cases h; exact ⟨by simp, hc, by simp, by simp⟩
    · split at h
      · cases h; exact ⟨by simp, hc, by simp, by simp⟩
      · split at h
        · cases h; exact ⟨by simp, hc, hl y (by simp), by simp⟩
        · cases h
  · next x y z =>
    split at h
    · cases h; exact ⟨by simp, hc, hl y (by simp), hl z (by simp)⟩
    · cases h
  · cases h

theorem subject_ok {l : List (List UInt8)} {s : Sl.Subj} (h : Sl.subject l = some s) (hl : ∀ x ∈ l, x.length ≤ 2000) : OkS s := by
  unfold Sl.subject at h
  split at h
  · cases h
  · split at h
    · cases h
    · next c hc => exact owner_ok h (Sl.classOf_lt hc) (fun x hx => hl x (List.dropLast_subset _ hx))

theorem line_ok {l : List (List UInt8)} {s : Sl.Subj} {m : Sl.Lim} (h : Sl.line l = some (s, m)) (hl : ∀ x ∈ l, x.length ≤ 2000) : OkS s ∧ (0 < m.rate ∧ m.rate ≤ 1000000) ∧ (0 < m.burst ∧ m.burst ≤ 1000000) := by
  unfold Sl.line at h
  split at h
  · next u r t e =>
    split at h
    · next s' hs =>
      split at h
      · next hp =>
        cases h
        refine ⟨subject_ok hs (fun x hx => hl x ?_), ⟨hp.1, number_le _⟩, ⟨hp.2, number_le _⟩⟩
        have : x ∈ l.reverse := by rw [e]; simp at hx; simp [hx]
        simpa using this
      · cases h
    · cases h
  · cases h

def OkSay (a : Sl.Saying) : Prop := OkS a.about ∧ a.at_ ≠ 0 ∧ (0 < a.lim.rate ∧ a.lim.rate ≤ 1000000) ∧ (0 < a.lim.burst ∧ a.lim.burst ≤ 1000000)

theorem scan_ok : ∀ (ls : List (List UInt8)) (i : Nat) (acc : List Sl.Saying), (∀ x ∈ ls, x.length ≤ 2000) → (∀ a ∈ acc, OkSay a) → (∀ a ∈ (Sl.scan i ls acc).1, OkSay a) ∧ (Sl.scan i ls acc).1.length ≤ acc.length + ls.length
  | [], i, acc, _, ha => ⟨ha, Nat.le_refl _⟩
  | x :: r, i, acc, hx, ha => by
    have hr : ∀ y ∈ r, y.length ≤ 2000 := fun y hy => hx y (by simp [hy])
    unfold Sl.scan
    split
    · have := scan_ok r (i + 1) acc hr ha
      exact ⟨this.1, by have := this.2; simp; omega⟩
    · split
      · exact ⟨by simp, by simp⟩
      · next s m hl =>
        have hk := line_ok hl (fun y hy => by
          have h1 := Sl.fgo_mem _ _ _ hy
          have h2 := hx x (by simp)
          simp at h1; omega)
        have := scan_ok r (i + 1) (acc ++ [⟨i + 1, s, m⟩]) hr (fun a h => by
          rcases List.mem_append.1 h with h | h
          · exact ha a h
          · simp at h; subst h; exact ⟨hk.1, by simp, hk.2.1, hk.2.2⟩)
        exact ⟨this.1, by have := this.2; simp at this ⊢; omega⟩

/-- What Read answers: the table, the error, its line. -/
def readS (t : List UInt8) : Option (List (Sl.Subj × Sl.Lim)) × Nat × Nat :=
  if 2000 < t.length then (none, 6, 0)
  else if (Sl.scan 0 (Sl.lines t) []).2 ≠ 0 then (none, 1, (Sl.scan 0 (Sl.lines t) []).2)
  else if (gatherS (Sl.scan 0 (Sl.lines t) []).1 []).2 ≠ 0 then (none, 2, (gatherS (Sl.scan 0 (Sl.lines t) []).1 []).2)
  else if defaultsB (gatherS (Sl.scan 0 (Sl.lines t) []).1 []).1 = true then (some (gatherS (Sl.scan 0 (Sl.lines t) []).1 []).1, 0, 0)
  else (none, 3, 0)

theorem gather_any (l : List Sl.Saying) (v : Value) (B : Nat) (w : World) (hown : w.ownsRow B 211 7 v l.length (sayAll l)) (hn : l.length ≤ 2001) (hok : ∀ a ∈ l, OkSay a) :
    Calls Tryz.prog 74 #[v] w fun e w' => Below w.heap.size w w' ∧
      (((gatherS l []).2 = 0 ∧ e = .returned (.tuple #[.map (some w.heap.size), .int .i64 0]) ∧ w'.ownsMap Tryz.prog 151 limR w.heap.size l.length (tabD (gatherS l []).1) ∧ OkL (gatherS l []).1)
        ∨ ((gatherS l []).2 ≠ 0 ∧ e = .returned (.tuple #[.map none, .int .i64 (gatherS l []).2]))) := by
  rcases hown.2 with ⟨rfl, h0⟩ | ⟨g, cap, cur, rfl, _, hg, _⟩
  · have : l = [] := List.eq_nil_of_length_eq_zero h0
    subst this
    refine (gather_none w).mono ?_
    rintro e w' ⟨hb, rfl, hm⟩
    exact ⟨hb, .inl ⟨rfl, rfl, hm, ⟨by simp [gatherS], List.Pairwise.nil⟩⟩⟩
  · refine gather_some l g cap w ?_ (Array.getElem?_eq_some_iff.1 hg).1 hn (fun a ha => ⟨(hok a ha).1, (hok a ha).2.1⟩)
    intro j u hu
    have := hown.cells (g := g) rfl j u hu
    rw [addr_add, Nat.zero_add] at this
    exact this

/-- A table in memory, as Read lays it: its map, its Once untouched, no text yet. -/
def FreshTable (w : World) (b m : Nat) : Prop := w.heap[b]? = some (.cells #[.map (some m), .int .u32 0, .int .i32 0, .int .u32 0, .string ⟨#[]⟩] 115 (0, 0))

set_option maxRecDepth 100000 in
set_option maxHeartbeats 2000000 in
theorem read_any (s : ByteArray) (m : Int) (w : World) (hm : w.cell? ⟨1, 0, none⟩ = some (.int .i64 m)) :
    Calls Tryz.prog 47 #[.string s] w fun e w' => Below w.heap.size w w' ∧
      match (readS s.data.toList).1 with
      | none => e = .returned (.tuple #[.pointer none, .int .i64 (readS s.data.toList).2.1, .int .i64 (readS s.data.toList).2.2])
      | some tab => ∃ b mb n, e = .returned (.tuple #[.pointer (some ⟨b, 0, none⟩), .int .i64 0, .int .i64 0]) ∧ FreshTable w' b mb ∧ w'.ownsMap Tryz.prog 151 limR mb n (tabD tab) ∧ OkL tab ∧ w.heap.size ≤ mb ∧ w.heap.size ≤ b ∧ mb ≠ b := by
  unfold readS
  by_cases hs : 2000 < s.size
  · have e1 : 2000 < s.data.toList.length := hs
    rw [if_pos e1]
    clear e1
    go_enter Tryz.func47, Tryz.ntmps47
    go_wp2
    go_ret3
    exact ⟨Below.refl _ _, rfl⟩
  · have e1 : ¬ 2000 < s.data.toList.length := hs
    rw [if_neg e1]
    clear e1
    have hs2 : s.size ≤ 2000 := by omega
    clear hs
    have hlen : ∀ x ∈ Sl.lines s.data.toList, x.length ≤ 2000 := by
      intro x hx
      have := Sl.lgo_mem _ _ _ hx
      simp at this; omega
    obtain ⟨hok, hcnt⟩ := scan_ok (Sl.lines s.data.toList) 0 [] hlen (by simp)
    have hcnt2 : (Sl.scan 0 (Sl.lines s.data.toList) []).1.length ≤ 2001 := by
      have := Sl.lgo_len s.data.toList []
      simp at hcnt this
      unfold Sl.lines at *
      omega
    have RL := readLines_any s m w hs2 hm
    generalize hsc : Sl.scan 0 (Sl.lines s.data.toList) [] = sc at *
    obtain ⟨says, bad⟩ := sc
    simp only [] at *
    have HRL := hide RL; have HOK := hide hok
    clear RL hok hsc hlen hcnt
    by_cases hbad : bad = 0
    · subst hbad
      rw [if_neg (by simp)]
      generalize hga : gatherS says [] = ga at *
      obtain ⟨tab, twin⟩ := ga
      simp only [] at *
      have HGA := hide hga; clear hga
      by_cases htw : twin = 0
      · subst htw
        rw [if_neg (by simp)]
        cases hd : defaultsB tab with
        | true =>
          rw [if_pos rfl]
          simp only []
          have HDD := hide hd; clear hd
          go_enter Tryz.func47, Tryz.ntmps47
          go_wp2_with fail
          refine (unhide HRL).mono ?_
          rintro e w1 ⟨v, rfl, hown, hb1⟩
          have hcl := hide (gather_any says v _ w1 hown hcnt2 (unhide HOK))
          clear hown
          go_wp2_with fail
          refine (unhide hcl).mono ?_
          rintro e w2 ⟨hb2, hcase⟩
          rw [unhide HGA] at hcase
          have hbw : Below w.heap.size w w2 := hb1.trans (hb2.mono hb1.size)
          rcases hcase with ⟨ht, rfl, hmap, hokl⟩ | ⟨ht, rfl⟩
          · clear ht
            have hcl2 := hide (hasDefaults_any tab w1.heap.size says.length w2 hmap hokl)
            have HM := hide hmap; have HK := hide hokl; clear hmap hokl
            go_wp2_with fail
            refine (unhide hcl2).mono ?_
            rintro e w3 ⟨rfl, hb3⟩
            rw [unhide HDD]
            go_wp2
            go_ret3
            refine ⟨(hbw.trans (hb3.mono hbw.size)).alloc (Nat.le_trans hbw.size hb3.size) _, w3.heap.size, w1.heap.size, says.length, rfl, ?_, ?_, unhide HK, hb1.size, Nat.le_trans hbw.size hb3.size, ?_⟩
            · exact (MapKept.heap_alloc w3 _).1
            · exact ((unhide HM).kept (row := none) ⟨hb3.os, hb3.tape, hb3.output, hb3.size, fun k hk _ => hb3.block k hk⟩ (by simp)).alloc _
            · have h1 := (unhide HM).lt
              have h2 := hb3.size
              omega
          · exact absurd rfl ht
        | false =>
          rw [if_neg (by simp)]
          simp only []
          have HDD := hide hd; clear hd
          go_enter Tryz.func47, Tryz.ntmps47
          go_wp2_with fail
          refine (unhide HRL).mono ?_
          rintro e w1 ⟨v, rfl, hown, hb1⟩
          have hcl := hide (gather_any says v _ w1 hown hcnt2 (unhide HOK))
          clear hown
          go_wp2_with fail
          refine (unhide hcl).mono ?_
          rintro e w2 ⟨hb2, hcase⟩
          rw [unhide HGA] at hcase
          have hbw : Below w.heap.size w w2 := hb1.trans (hb2.mono hb1.size)
          rcases hcase with ⟨ht, rfl, hmap, hokl⟩ | ⟨ht, rfl⟩
          · clear ht
            have hcl2 := hide (hasDefaults_any tab w1.heap.size says.length w2 hmap hokl)
            clear hmap hokl
            go_wp2_with fail
            refine (unhide hcl2).mono ?_
            rintro e w3 ⟨rfl, hb3⟩
            rw [unhide HDD]
            go_wp2
            go_ret3
            exact ⟨hbw.trans (hb3.mono hbw.size), rfl⟩
          · exact absurd rfl ht
      · rw [if_pos htw]
        simp only []
        go_enter Tryz.func47, Tryz.ntmps47
        go_wp2_with fail
        refine (unhide HRL).mono ?_
        rintro e w1 ⟨v, rfl, hown, hb1⟩
        have hcl := hide (gather_any says v _ w1 hown hcnt2 (unhide HOK))
        clear hown
        go_wp2_with fail
        refine (unhide hcl).mono ?_
        rintro e w2 ⟨hb2, hcase⟩
        rw [unhide HGA] at hcase
        have hbw : Below w.heap.size w w2 := hb1.trans (hb2.mono hb1.size)
        rcases hcase with ⟨ht, rfl, hmap, hokl⟩ | ⟨ht, rfl⟩
        · exact absurd ht htw
        · have hp : (0 : Int) < twin := by omega
          clear ht
          simp only []
          go_wp2
          go_ret3
          exact ⟨hbw, rfl⟩
    · rw [if_pos hbad]
      go_enter Tryz.func47, Tryz.ntmps47
      go_wp2_with fail
      refine (unhide HRL).mono ?_
      rintro e w1 ⟨v, rfl, hown, hb1⟩
      have hp : (0 : Int) < bad := by omega
      go_wp2
      go_ret3
      exact ⟨hb1, rfl⟩

end Go.Proofs.YthmhfilkgggagaaGreatDoor
