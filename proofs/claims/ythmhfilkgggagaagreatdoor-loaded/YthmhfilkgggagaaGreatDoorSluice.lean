/-
  The sluice: New, Reload, Limits, Limit.
-/
import Derived.Test.YthmhfilkgggagaaGreatDoorBuA
namespace Go.Proofs.YthmhfilkgggagaaGreatDoor
open Go.RowKit Go.Maps Go.Sort

theorem gatherS_mem : ∀ (ss : List Sl.Saying) (acc l : List (Sl.Subj × Sl.Lim)), gatherS ss acc = (l, 0) → (∀ a ∈ ss, a.at_ ≠ 0) → l.length = acc.length + ss.length ∧ ∀ x ∈ l, x ∈ acc ∨ ∃ a ∈ ss, x = (a.about, a.lim)
  | [], acc, l, h, _ => by
    simp only [gatherS, Prod.mk.injEq] at h
    obtain ⟨rfl, _⟩ := h
    exact ⟨by simp, fun x hx => .inl hx⟩
  | a :: r, acc, l, h, hn => by
    unfold gatherS at h
    by_cases hl : (look acc a.about).isSome = true
    · rw [if_pos hl] at h
      exact absurd (Prod.mk.inj h).2 (hn a (List.mem_cons_self ..))
    · rw [if_neg hl] at h
      obtain ⟨h1, h2⟩ := gatherS_mem r _ l h (fun b hb => hn b (List.mem_cons_of_mem _ hb))
      refine ⟨by rw [h1]; simp; omega, fun x hx => ?_⟩
      rcases h2 x hx with h3 | ⟨b, hb, e⟩
      · rcases List.mem_append.1 h3 with h4 | h4
        · exact .inl h4
        · simp at h4; exact .inr ⟨a, List.mem_cons_self .., h4⟩
      · exact .inr ⟨b, List.mem_cons_of_mem _ hb, e⟩

theorem readS_some {t : List UInt8} {l : List (Sl.Subj × Sl.Lim)} (h : (readS t).1 = some l) : t.length ≤ 2000 ∧ (Sl.scan 0 (Sl.lines t) []).2 = 0 ∧ gatherS (Sl.scan 0 (Sl.lines t) []).1 [] = (l, 0) ∧ defaultsB l = true ∧ (readS t).2 = (0, 0) := by
  unfold readS at h ⊢
  split at h
  · simp at h
  · next h1 =>
    split at h
    · simp at h
    · next h2 =>
      split at h
      · simp at h
      · next h3 =>
        split at h
        · next h4 =>
          simp only [Option.some.injEq] at h
          rw [h] at h4
          rw [if_neg h1, if_neg h2, if_neg h3]
          refine ⟨by omega, by simpa using h2, ?_, h4, ?_⟩
          · simp only [ne_eq, Decidable.not_not] at h3; exact Prod.ext h h3
          · rw [h, if_pos h4]
        · simp at h

theorem readS_none (t : List UInt8) (h : (readS t).1 = none) : 0 < (readS t).2.1 := by
  unfold readS at h ⊢
  by_cases h1 : 2000 < t.length
  · rw [if_pos h1]; simp
  · rw [if_neg h1] at h ⊢
    by_cases h2 : (Sl.scan 0 (Sl.lines t) []).2 ≠ 0
    · rw [if_pos h2]; simp
    · rw [if_neg h2] at h ⊢
      by_cases h3 : (gatherS (Sl.scan 0 (Sl.lines t) []).1 []).2 ≠ 0
      · rw [if_pos h3]; simp
      · rw [if_neg h3] at h ⊢
        by_cases h4 : defaultsB (gatherS (Sl.scan 0 (Sl.lines t) []).1 []).1 = true
        · rw [if_pos h4] at h; simp at h
        · rw [if_neg h4]; simp

theorem readS_lim {t : List UInt8} {l : List (Sl.Subj × Sl.Lim)} (h : (readS t).1 = some l) : (∀ x ∈ l, (0 < x.2.rate ∧ x.2.rate ≤ 1000000) ∧ 0 < x.2.burst ∧ x.2.burst ≤ 1000000) ∧ l.length ≤ 2001 := by
  obtain ⟨h1, h2, h3, h4, h5⟩ := readS_some h
  have hlen : ∀ x ∈ Sl.lines t, x.length ≤ 2000 := by
    intro x hx
    have := Sl.lgo_mem _ _ _ hx
    simp at this; omega
  obtain ⟨hok, hcnt⟩ := scan_ok (Sl.lines t) 0 [] hlen (by simp)
  have hcnt2 : (Sl.scan 0 (Sl.lines t) []).1.length ≤ 2001 := by
    have := Sl.lgo_len t []
    simp at hcnt this
    unfold Sl.lines at *
    omega
  obtain ⟨m1, m2⟩ := gatherS_mem _ _ _ h3 (fun a ha => (hok a ha).2.1)
  refine ⟨fun x hx => ?_, by rw [m1]; simp; exact hcnt2⟩
  rcases m2 x hx with e | ⟨a, ha, rfl⟩
  · simp at e
  · exact ⟨(hok a ha).2.2.1, (hok a ha).2.2.2⟩

/-- Every limit of a table is at least 1, and the four defaults are said. -/
structure OkPos (l : List (Sl.Subj × Sl.Lim)) : Prop where
  pos : ∀ x ∈ l, 0 < x.2.rate ∧ 0 < x.2.burst
  dflt : defaultsB l = true

theorem readS_okp {t : List UInt8} {l : List (Sl.Subj × Sl.Lim)} (h : (readS t).1 = some l) : OkPos l :=
  ⟨fun x hx => ⟨((readS_lim h).1 x hx).1.1, ((readS_lim h).1 x hx).2.1⟩, (readS_some h).2.2.2.1⟩

/-- A sluice but for its table: its lock is free, its time is tm, its levels are lv. -/
structure SlCore (w : World) (sb : Nat) (p : Value) (lb tm : Nat) (lv : Lv) : Prop where
  at_ : SlAt w sb p (.int .i32 0) (.int .i64 tm) (.map (some lb))
  lev : OwnsV w lb lv
  ok : OkV lv
  few : lv.length ≤ 64
  time : tm ≤ 1000000000000
  low : 7 ≤ sb
  ne : sb ≠ lb

theorem SlCore.lt {w : World} {sb : Nat} {p : Value} {lb tm : Nat} {lv : Lv} (h : SlCore w sb p lb tm lv) : sb < w.heap.size := h.at_.lt

theorem SlCore.blocks {w w' : World} {sb : Nat} {p : Value} {lb tm : Nat} {lv : Lv} (h : SlCore w sb p lb tm lv) {row : Option Nat} (hg : w.grownBy w' row) (h1 : some sb ≠ row) (h2 : some lb ≠ row) : SlCore w' sb p lb tm lv :=
  ⟨h.at_.grown hg h1, h.lev.kept hg h2, h.ok, h.few, h.time, h.low, h.ne⟩

/-- A sluice: its limits are the table l, its time tm, its levels lv. -/
structure IsSl (w : World) (sb tb mb n : Nat) (l : List (Sl.Subj × Sl.Lim)) (lb tm : Nat) (lv : Lv) : Prop where
  core : SlCore w sb (.pointer (some ⟨tb, 0, none⟩)) lb tm lv
  table : IsTable w tb mb n l
  okp : OkPos l
  apart : sb ≠ tb ∧ sb ≠ mb ∧ tb ≠ lb ∧ mb ≠ lb

theorem IsSl.lt {w : World} {sb tb mb n : Nat} {l : List (Sl.Subj × Sl.Lim)} {lb tm : Nat} {lv : Lv} (h : IsSl w sb tb mb n l lb tm lv) : sb < w.heap.size := h.core.lt
theorem IsSl.low {w : World} {sb tb mb n : Nat} {l : List (Sl.Subj × Sl.Lim)} {lb tm : Nat} {lv : Lv} (h : IsSl w sb tb mb n l lb tm lv) : 7 ≤ sb := h.core.low

theorem IsTable.lt {w : World} {tb mb n : Nat} {l : List (Sl.Subj × Sl.Lim)} (h : IsTable w tb mb n l) : tb < w.heap.size := by
  rcases h.cells with h | h <;> exact (Array.getElem?_eq_some_iff.1 h).1

theorem IsTable.shape {w : World} {tb mb n : Nat} {l : List (Sl.Subj × Sl.Lim)} (h : IsTable w tb mb n l) : w.shape? tb = some (115, 5) := by
  rcases h.cells with h | h <;> exact shape_table h rfl

theorem IsTable.map {w : World} {tb mb n : Nat} {l : List (Sl.Subj × Sl.Lim)} (h : IsTable w tb mb n l) : w.cell? ⟨tb, 0, none⟩ = some (.map (some mb)) := by
  rcases h.cells with h | h <;> exact h.cells.1

theorem IsTable.blocks {w w' : World} {tb mb n : Nat} {l : List (Sl.Subj × Sl.Lim)} (h : IsTable w tb mb n l) {row : Option Nat} (hg : w.grownBy w' row) (h2 : some tb ≠ row) (h3 : some mb ≠ row) : IsTable w' tb mb n l := by
  refine ⟨?_, h.own.kept hg h3, h.ok, h.low, h.ne⟩
  have htb := hg.block tb h.lt h2
  rcases h.cells with c | c
  · exact .inl (htb.trans c)
  · exact .inr (htb.trans c)

/-- The four blocks of a sluice as they were: it holds the same. -/
theorem IsSl.blocks {w w' : World} {sb tb mb n : Nat} {l : List (Sl.Subj × Sl.Lim)} {lb tm : Nat} {lv : Lv} (h : IsSl w sb tb mb n l lb tm lv) {row : Option Nat} (hg : w.grownBy w' row) (h1 : some sb ≠ row) (h2 : some tb ≠ row) (h3 : some mb ≠ row) (h4 : some lb ≠ row) : IsSl w' sb tb mb n l lb tm lv :=
  ⟨h.core.blocks hg h1 h4, h.table.blocks hg h2 h3, h.okp, h.apart⟩

theorem IsSl.below {w w' : World} {sb tb mb n : Nat} {l : List (Sl.Subj × Sl.Lim)} {lb tm : Nat} {lv : Lv} (h : IsSl w sb tb mb n l lb tm lv) (hb : Below w.heap.size w w') : IsSl w' sb tb mb n l lb tm lv :=
  h.blocks (row := none) ⟨hb.os, hb.tape, hb.output, hb.size, fun k hk _ => hb.block k hk⟩ (by simp) (by simp) (by simp) (by simp)

set_option maxRecDepth 100000 in
set_option maxHeartbeats 1000000 in
theorem limits_any (l : List (Sl.Subj × Sl.Lim)) (sb tb mb n lb tm : Nat) (lv : Lv) (w : World) (h : IsSl w sb tb mb n l lb tm lv) (hE : Env w) :
    Calls Tryz.prog 19 #[.pointer (some ⟨sb, 0, none⟩)] w fun e w' => e = .returned (.string ⟨(textOf l).toArray⟩) ∧ IsSl w' sb tb mb n l lb tm lv ∧ w.grownBy w' (some tb) := by
  have hld := hide (load_any sb tb w h.core.at_.cells.1 h.table.shape)
  have htx := hide (text_any l tb mb n w h.table hE)
  have c0 := h.core.at_.cells.1
  have HH := hide h; clear h hE
  go_enter Tryz.func19, Tryz.ntmps19
  go_wp2_with fail
  refine (unhide hld).mono ?_
  rintro e w1 ⟨rfl, rfl⟩
  go_wp2_with fail
  refine (unhide htx).mono ?_
  rintro e w2 ⟨rfl, ht, hg⟩
  have HT := hide ht; have HG := hide hg; clear ht hg
  go_wp2
  go_ret
  have h := unhide HH; have hg := unhide HG
  exact ⟨rfl, ⟨h.core.blocks hg (by simpa using h.apart.1) (by simpa using fun e => h.apart.2.2.1 e.symm), unhide HT, h.okp, h.apart⟩, hg⟩

theorem nameLen_len : ∀ (l : List UInt8) (k : Nat), Sl.nameLen l = some k → l.length ≤ 2 * k
  | [], k, _ => by simp
  | [c], k, h => by
    unfold Sl.nameLen at h
    split at h
    · cases h; simp
    · cases h
  | c :: d :: r, k, h => by
    unfold Sl.nameLen at h
    split at h
    · obtain ⟨m, hm, rfl⟩ := Option.map_eq_some_iff.1 h
      have := nameLen_len (d :: r) m hm
      simp at this ⊢; omega
    · split at h
      · obtain ⟨m, hm, rfl⟩ := Option.map_eq_some_iff.1 h
        have := nameLen_len r m hm
        simp at this ⊢; omega
      · cases h

theorem isName_len {l : List UInt8} (h : Sl.isName l = true) : 1 ≤ l.length ∧ l.length ≤ 16 := by
  unfold Sl.isName Sl.nameCont at h
  cases hn : Sl.nameLen l with
  | none => rw [hn] at h; simp at h
  | some m =>
    rw [hn] at h
    simp at h
    have h2 := nameLen_len l m hn
    refine ⟨?_, by omega⟩
    cases l with
    | nil => simp [Sl.nameLen] at hn; omega
    | cons a r => simp

/-- What Limit answers: the limit, the error. -/
def limitA (l : List (Sl.Subj × Sl.Lim)) (cls org ten : List UInt8) : Sl.Lim × Nat :=
  if (bucketA cls org ten).2 = true then (limitS l (bucketA cls org ten).1 org ten, 0) else (noLim, 5)

theorem bucketS_ok {cls org ten : List UInt8} {c : Nat} (h : bucketS cls org ten = some c) : OkK (c, org, ten) ∧ Sl.isName org = true ∧ (ten = [] ∨ Sl.isName ten = true) := by
  unfold bucketS at h
  cases hc : Sl.classOf cls with
  | none => rw [hc] at h; simp at h
  | some d =>
    rw [hc] at h
    simp only [] at h
    split at h
    · next hn =>
      cases h
      have h1 := isName_len hn.1
      refine ⟨⟨Sl.classOf_lt hc, by show org.length ≤ 2000; omega, ?_⟩, hn⟩
      rcases hn.2 with rfl | h2
      · simp
      · have := isName_len h2; show ten.length ≤ 2000; omega
    · cases h

theorem bucketA_ok {cls org ten : List UInt8} (h : (bucketA cls org ten).2 = true) : (bucketA cls org ten).1 < 2 ∧ org.length ≤ 2000 ∧ ten.length ≤ 2000 := by
  unfold bucketA at *
  cases hb : bucketS cls org ten with
  | none => rw [hb] at h; simp at h
  | some c => exact (bucketS_ok hb).1

theorem keyA_of {cls org ten : List UInt8} (h : (bucketA cls org ten).2 = true) : keyA cls org ten = ((bucketA cls org ten).1, org, ten) := by
  unfold bucketA keyA at *
  cases hb : bucketS cls org ten with
  | none => rw [hb] at h; simp at h
  | some c => rfl

set_option maxRecDepth 100000 in
set_option maxHeartbeats 1000000 in
theorem limit_any (l : List (Sl.Subj × Sl.Lim)) (sb tb mb n lb tm : Nat) (lv : Lv) (cls org ten : List UInt8) (w : World) (h : IsSl w sb tb mb n l lb tm lv) :
    Calls Tryz.prog 22 #[.pointer (some ⟨sb, 0, none⟩), .string ⟨cls.toArray⟩, .string ⟨org.toArray⟩, .string ⟨ten.toArray⟩] w fun e w' => e = .returned (.tuple #[limV (limitA l cls org ten).1, .int .i64 (limitA l cls org ten).2]) ∧ Below w.heap.size w w' := by
  have hrb := fun w => readKey_any cls org ten w
  have hsb := h.lt
  have HH := hide h; clear h
  unfold limitA
  have hok := fun h => bucketA_ok (cls := cls) (org := org) (ten := ten) h
  have hka := fun h => keyA_of (cls := cls) (org := org) (ten := ten) h
  generalize bucketA cls org ten = ba at *
  generalize keyA cls org ten = ka at *
  obtain ⟨c, good⟩ := ba
  simp only [] at *
  cases good with
  | false =>
    clear hok hka
    simp only [Bool.false_eq_true, if_false]
    have HRB := hide hrb; clear hrb
    unfold keyV at HRB
    go_enter Tryz.func22, Tryz.ntmps22
    go_wp2_with fail
    refine (unhide HRB _).mono ?_
    rintro e w1 ⟨rfl, hb⟩
    have rb := Two.keep (Two.made w (.int .i64 0) (.int .i64 0) 27) hb (by simp)
    obtain ⟨b0, b1, v0, v1, bn⟩ := rb
    have hbw : Below w.heap.size w w1 := (Below.alloc1 _ _).trans (hb.mono (by simp))
    have HB := hide hbw
    clear hb hbw
    go_wp2
    refine bodyPost_ret (v := .tuple #[limV noLim, .int .i64 5]) (by simp [results, Tryz.results22, go_sem, limV, noLim, b0, b1, bn]) rfl ⟨rfl, ?_⟩
    exact (((unhide HB).setCell (Nat.le_refl _) _).setCell (Nat.le_refl _) _).alloc (by simp; omega) _
  | true =>
    obtain ⟨hc2, ho, ht⟩ := hok rfl
    have hk2 := hka rfl
    subst hk2
    simp only [if_true]
    clear hok hka
    generalize hlim : limitS l c org ten = lim
    have HLIM := hide hlim; clear hlim
    have HRB := hide hrb; clear hrb
    unfold keyV at HRB
    go_enter Tryz.func22, Tryz.ntmps22
    go_wp2_with fail
    refine (unhide HRB _).mono ?_
    rintro e w1 ⟨rfl, hb⟩
    have rb := Two.keep (Two.made w (.int .i64 0) (.int .i64 0) 27) hb (by simp)
    have hn1 : w.heap.size < w1.heap.size := rb.2.2.2.2
    have rb2 := Two.keep rb (Below.alloc1 w1 (.cells #[.int .i64 c, .string ⟨org.toArray⟩, .string ⟨ten.toArray⟩] 118)) hn1
    have hbw : Below w.heap.size w w1 := (Below.alloc1 _ _).trans (hb.mono (by simp))
    have hbw2 : Below w.heap.size w (w1.alloc (.cells #[.int .i64 c, .string ⟨org.toArray⟩, .string ⟨ten.toArray⟩] 118)) := hbw.alloc hbw.size _
    have h1 := (unhide HH).below hbw2
    have hld := hide (load_any sb tb (w1.alloc (.cells #[.int .i64 c, .string ⟨org.toArray⟩, .string ⟨ten.toArray⟩] 118)).drew h1.core.at_.cells.1 h1.table.shape)
    have htl := hide (tabLimit_any l tb mb n c org ten (w1.alloc (.cells #[.int .i64 c, .string ⟨org.toArray⟩, .string ⟨ten.toArray⟩] 118)).drew h1.table.map h1.table.own.drew h1.table.ok.1 hc2 ho ht)
    have hsw : sb < w1.heap.size := Nat.lt_of_lt_of_le hsb hbw.size
    have K3 := hide (Three.made w1 (.int .i64 c) (.string ⟨org.toArray⟩) (.string ⟨ten.toArray⟩) 118)
    obtain ⟨k0, k1, k2, _, _, _, _⟩ := unhide K3
    have HB := hide hbw2; have RB := hide rb2
    clear hb hbw hbw2 h1 rb rb2
    rw [unhide HLIM] at htl
    unfold limV at htl
    have hn2 : ¬ w.heap.size = w1.heap.size := by omega
    have hn3 : ¬ w1.heap.size = w.heap.size := by omega
    go_wp2_with fail
    go_region_held3 (fun w' => w'.cell? ⟨w1.heap.size, 0, none⟩ = some (.int .i64 c) ∧ w'.cell? ⟨w1.heap.size, 1, none⟩ = some (.string ⟨org.toArray⟩) ∧ w'.cell? ⟨w1.heap.size, 2, none⟩ = some (.string ⟨ten.toArray⟩)) (go_keep)
      (first
        | (go_at_call 43; refine (unhide hld).mono ?_; rintro e w2 ⟨rfl, rfl⟩)
        | (go_at_call 46; refine (unhide htl).mono ?_; rintro e w3 ⟨rfl, hb3⟩; have HB3a := hide hb3; obtain ⟨b0, b1, v0, v1, bn⟩ := Two.keep (W := (w1.alloc (.cells #[.int .i64 c, .string ⟨org.toArray⟩, .string ⟨ten.toArray⟩] 118)).drew) (unhide RB) hb3 (unhide RB).2.2.2.2; obtain ⟨q0, q1, q2, -, -, -, -⟩ := Three.keep (W := (w1.alloc (.cells #[.int .i64 c, .string ⟨org.toArray⟩, .string ⟨ten.toArray⟩] 118)).drew) (unhide K3) hb3 (unhide K3).2.2.2.2.2.2; clear hb3))
    have HB3 : Hid (Below w.heap.size w w3) := hide ((unhide HB).drew.trans ((unhide HB3a).mono (unhide HB).size))
    go_wp2
    refine bodyPost_ret (v := .tuple #[.agg #[.int .i64 lim.rate, .int .i64 lim.burst], .int .i64 0]) (by simp [results, Tryz.results22, go_sem, b0, b1]) rfl ⟨rfl, ?_⟩
    exact ((unhide HB3).setCell (Nat.le_refl _) _).setCell (Nat.le_refl _) _

theorem IsTable.fresh {w : World} {tb mb n : Nat} {t : List UInt8} {l : List (Sl.Subj × Sl.Lim)} (hf : FreshTable w tb mb) (ho : w.ownsMap Tryz.prog 151 limR mb n (tabD l)) (hl : OkL l) (ht : (readS t).1 = some l) (hlow : 7 ≤ tb) (hne : mb ≠ tb) : IsTable w tb mb n l :=
  ⟨.inl hf, ho, ⟨hl, fun x hx => ⟨((readS_lim ht).1 x hx).1.2, ((readS_lim ht).1 x hx).2.2⟩, (readS_lim ht).2⟩, hlow, hne⟩

theorem grown_below {w w' : World} {row : Option Nat} (hb : Below w.heap.size w w') : w.grownBy w' row := ⟨hb.os, hb.tape, hb.output, hb.size, fun k hk _ => hb.block k hk⟩

set_option maxRecDepth 100000 in
set_option maxHeartbeats 1000000 in
/-- Reload, at a sluice that holds limits, or none yet. -/
theorem reload_any (t : List UInt8) (sb : Nat) (v : Value) (lb tm : Nat) (lv : Lv) (w : World) (h : SlCore w sb v lb tm lv) (hE : Env w) :
    Calls Tryz.prog 26 #[.pointer (some ⟨sb, 0, none⟩), .string ⟨t.toArray⟩] w fun e w' =>
      e = .returned (.tuple #[.int .i64 (readS t).2.1, .int .i64 (readS t).2.2]) ∧
      match (readS t).1 with
      | none => Below w.heap.size w w' ∧ (readS t).2.1 ≠ 0
      | some l => w.grownBy w' (some sb) ∧ (readS t).2.1 = 0 ∧ (readS t).2.2 = 0 ∧ ∃ tb mb n, IsSl w' sb tb mb n l lb tm lv ∧ w.heap.size ≤ tb ∧ w.heap.size ≤ mb := by
  obtain ⟨m, hm⟩ := hE.len
  have hrd := read_any ⟨t.toArray⟩ m w hm
  simp only [] at hrd
  have hlt := h.lt
  have hsb := h.low
  have hlb := h.lev.lt
  have hsz := hE.size
  have c0 := h.at_.cells.1
  have f0 := h.at_.cells.2.2.2.2 0
  have HH := hide h; clear h hm hE
  have hrs := readS_none t
  have hrs2 : ∀ l, (readS t).1 = some l → (readS t).2 = (0, 0) := fun l hl => (readS_some hl).2.2.2.2
  have hfr := fun w tb mb n l => IsTable.fresh (w := w) (tb := tb) (mb := mb) (n := n) (t := t) (l := l)
  have hop := fun l => readS_okp (t := t) (l := l)
  generalize readS t = rs at *
  obtain ⟨o, en, line⟩ := rs
  simp only [] at *
  have HR := hide hrd; clear hrd
  cases o with
  | none =>
    have hen := hrs rfl
    simp only [] at HR ⊢
    clear hrs hrs2 hfr HH hop
    go_enter Tryz.func26, Tryz.ntmps26
    go_wp2_with fail
    refine (unhide HR).mono ?_
    rintro e w1 ⟨hb, rfl⟩
    have hp : (0 : Int) < en := by omega
    go_wp2
    go_ret2
    exact ⟨rfl, hb, by omega⟩
  | some l =>
    have hen := hrs2 l rfl
    simp only [Prod.mk.injEq] at hen
    obtain ⟨rfl, rfl⟩ := hen
    have hfr2 := hide (fun w tb mb n hf ho hl => hfr w tb mb n l hf ho hl rfl)
    have HOP := hide (hop l rfl)
    clear hrs hrs2 hfr hop
    simp only [] at HR ⊢
    go_enter Tryz.func26, Tryz.ntmps26
    go_wp2_with fail
    refine (unhide HR).mono ?_
    rintro e w1 ⟨hb, tb, mb, n, rfl, hf, ho, hl, hmb, htb, hne⟩
    have hIT := unhide hfr2 w1 tb mb n hf ho hl (by omega) hne
    have hco := (unhide HH).blocks (grown_below (row := none) hb) (by simp) (by simp)
    have d0 := hco.at_.cells.1
    have g0 := hco.at_.cells.2.2.2.2 0
    have hst := hide (store_any sb tb v (.map (some mb)) w1 d0 g0 hIT.map)
    have HIT := hide hIT; have HB := hide hb; have HCO := hide hco
    clear hf ho hl hIT hb hco
    go_wp2_with fail
    refine (unhide hst).mono ?_
    rintro e w2 ⟨rfl, rfl⟩
    go_wp2
    go_ret2
    have hg : w1.grownBy (w1.setCell ⟨sb, 0, none⟩ (.pointer (some ⟨tb, 0, none⟩))) (some sb) := grown_set w1 sb 0 _
    have hT := unhide HIT
    have hC := unhide HCO
    refine ⟨rfl, (grown_below (unhide HB)).trans hg, trivial, trivial, tb, mb, n, ⟨⟨hC.at_.set0 _, hC.lev.kept hg (by simpa using fun e => hC.ne e.symm), hC.ok, hC.few, hC.time, hC.low, hC.ne⟩, hT.blocks hg (by simp; omega) (by simp; omega), unhide HOP, by omega, by omega, by omega, by omega⟩, htb, hmb⟩

theorem OkV.none : OkV [] := ⟨by simp, by simp, List.Pairwise.nil⟩

set_option maxRecDepth 100000 in
set_option maxHeartbeats 1000000 in
theorem new_any (t : List UInt8) (w : World) (hE : Env w) :
    Calls Tryz.prog 16 #[.string ⟨t.toArray⟩] w fun e w' => Below w.heap.size w w' ∧
      match (readS t).1 with
      | none => e = .returned (.tuple #[.pointer none, .int .i64 (readS t).2.1, .int .i64 (readS t).2.2]) ∧ (readS t).2.1 ≠ 0
      | some l => ∃ sb tb mb n lb, e = .returned (.tuple #[.pointer (some ⟨sb, 0, none⟩), .int .i64 0, .int .i64 0]) ∧ IsSl w' sb tb mb n l lb 0 [] ∧ w.heap.size ≤ sb ∧ w.heap.size ≤ tb ∧ w.heap.size ≤ mb ∧ w.heap.size ≤ lb := by
  obtain ⟨WN, hWN⟩ : ∃ WN, WN = (w.alloc (.map #[] 0)).alloc (.cells #[.pointer none, .int .i32 0, .int .u32 0, .int .i64 0, .map (some w.heap.size)] 106) := ⟨_, rfl⟩
  have hb0 : Below w.heap.size w WN := by rw [hWN]; exact (Below.alloc1 w _).alloc (by simp) _
  have hco : SlCore WN (w.heap.size + 1) (.pointer none) w.heap.size 0 [] := by
    rw [hWN]
    refine ⟨?_, ?_, OkV.none, by simp, by omega, ?_, by omega⟩
    · show ((w.alloc _).alloc _).heap[w.heap.size + 1]? = _
      have := (MapKept.heap_alloc (w.alloc (.map #[] 0)) (.cells #[.pointer none, .int .i32 0, .int .u32 0, .int .i64 0, .map (some w.heap.size)] 106)).1
      simpa using this
    · exact ⟨_, (World.ownsMap_made w Tryz.prog 118 levR).alloc _, ReadsV.empty⟩
    · have := hE.size; omega
  have hrl := reload_any t (w.heap.size + 1) (.pointer none) w.heap.size 0 [] WN hco (hE.below hb0 hE.size)
  have hE2 := hE.size
  have hsz : WN.heap.size = w.heap.size + 2 := by rw [hWN]; simp
  have hmm : (Instr.makeMap 91 none).run Tryz.prog w = .ok (.map (some w.heap.size)) (w.alloc (.map #[] 0)) := by
    simp [Instr.makeMap]
  generalize readS t = rs at *
  obtain ⟨o, en, line⟩ := rs
  simp only [] at *
  have HR := hide hrl; have HB0 := hide hb0; have HW := hide hWN; have HSZ := hide hsz; clear hrl hE hb0 hco hWN hsz
  cases o with
  | none =>
    simp only [] at HR ⊢
    go_enter Tryz.func16, Tryz.ntmps16
    go_wp2_with fail
    rw [← unhide HW]
    refine (unhide HR).mono ?_
    rintro e w1 ⟨rfl, hb, hne⟩
    have hp : (0 : Int) < en := by omega
    have HB : Hid (Below w.heap.size w w1) := hide ((unhide HB0).trans (hb.mono (unhide HB0).size))
    clear hb
    go_wp2
    go_ret3
    exact ⟨unhide HB, rfl, hne⟩
  | some l =>
    simp only [] at HR ⊢
    go_enter Tryz.func16, Tryz.ntmps16
    go_wp2_with fail
    rw [← unhide HW]
    refine (unhide HR).mono ?_
    rintro e w1 ⟨rfl, hg, rfl, rfl, tb, mb, n, hsl, htb, hmb⟩
    have HB : Hid (Below w.heap.size w w1) := hide ((unhide HB0).grown hg (unhide HB0).size (fun j hj => by cases hj; omega))
    have HS := hide hsl
    rw [unhide HSZ] at htb hmb
    clear hg hsl
    go_wp2
    go_ret3
    exact ⟨unhide HB, w.heap.size + 1, tb, mb, n, w.heap.size, rfl, unhide HS, by omega, by omega, by omega, Nat.le_refl _⟩

end Go.Proofs.YthmhfilkgggagaaGreatDoor
