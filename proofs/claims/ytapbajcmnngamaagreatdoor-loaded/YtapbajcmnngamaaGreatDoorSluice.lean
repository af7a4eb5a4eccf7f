/-
  The sluice: New, Reload, Limits, Limit.
-/
import Derived.Test.YtapbajcmnngamaaGreatDoorBucket
namespace Go.Proofs.YtapbajcmnngamaaGreatDoor
open Go.RowKit Go.Maps Go.Sort

theorem gatherS_mem : ∀ (ss : List Sl.Saying) (acc l : List (Sl.Subj × Sl.Lim)), gatherS ss acc = (l, 0) → (∀ a ∈ ss, a.at_ ≠ 0) → l.length = acc.length + ss.length ∧ ∀ x ∈ l, x ∈ acc ∨ ∃ a ∈ ss, x = (a.about, a.lim)
  | [], acc, l, h, _ => by
    simp only [gatherS, Prod.mk.injEq] at h
    obtain ⟨rfl, _⟩ := h
    exact ⟨by simp, fun x hx => .inl hx⟩
  | a :: r, acc, l, h, hn => by
    unfold gatherS at h
    by_cases hl : (look acc a.about).isSome = true
    · rw [if_pos hl] at h
      exact absurd (Prod.mk.inj h).2 (hn a (List.mem_cons_self ..))
    · rw [if_neg hl] at h
      obtain ⟨h1, h2⟩ := gatherS_mem r _ l h (fun b hb => hn b (List.mem_cons_of_mem _ hb))
      refine ⟨by rw [h1]; simp; omega, fun x hx => ?_⟩
      rcases h2 x hx with h3 | ⟨b, hb, e⟩
      · rcases List.mem_append.1 h3 with h4 | h4
        · exact .inl h4
        · simp at h4; exact .inr ⟨a, List.mem_cons_self .., h4⟩
      · exact .inr ⟨b, List.mem_cons_of_mem _ hb, e⟩

theorem readS_some {t : List UInt8} {l : List (Sl.Subj × Sl.Lim)} (h : (readS t).1 = some l) : t.length ≤ 2000 ∧ (Sl.scan 0 (Sl.lines t) []).2 = 0 ∧ gatherS (Sl.scan 0 (Sl.lines t) []).1 [] = (l, 0) ∧ defaultsB l = true ∧ (readS t).2 = (0, 0) := by
  unfold readS at h ⊢
  split at h
  · simp at h
  · next h1 =>
    split at h
    · simp at h
    · next h2 =>
      split at h
      · simp at h
      · next h3 =>
        split at h
        · next h4 =>
          simp only [Option.some.injEq] at h
          rw [h] at h4
          rw [if_neg h1, if_neg h2, if_neg h3]
          refine ⟨by omega, by simpa using h2, ?_, h4, ?_⟩
          · simp only [ne_eq, Decidable.not_not] at h3; exact Prod.ext h h3
          · rw [h, if_pos h4]
        · simp at h

theorem readS_none (t : List UInt8) (h : (readS t).1 = none) : 0 < (readS t).2.1 := by
  unfold readS at h ⊢
  by_cases h1 : 2000 < t.length
  · rw [if_pos h1]; simp
  · rw [if_neg h1] at h ⊢
    by_cases h2 : (Sl.scan 0 (Sl.lines t) []).2 ≠ 0
    · rw [if_pos h2]; simp
    · rw [if_neg h2] at h ⊢
      by_cases h3 : (gatherS (Sl.scan 0 (Sl.lines t) []).1 []).2 ≠ 0
      · rw [if_pos h3]; simp
      · rw [if_neg h3] at h ⊢
        by_cases h4 : defaultsB (gatherS (Sl.scan 0 (Sl.lines t) []).1 []).1 = true
        · rw [if_pos h4] at h; simp at h
        · rw [if_neg h4]; simp

theorem readS_lim {t : List UInt8} {l : List (Sl.Subj × Sl.Lim)} (h : (readS t).1 = some l) : (∀ x ∈ l, (0 < x.2.rate ∧ x.2.rate ≤ 1000000) ∧ 0 < x.2.burst ∧ x.2.burst ≤ 1000000) ∧ l.length ≤ 2001 := by
  obtain ⟨h1, h2, h3, h4, h5⟩ := readS_some h
  have hlen : ∀ x ∈ Sl.lines t, x.length ≤ 2000 := by
    intro x hx
    have := Sl.lgo_mem _ _ _ hx
    simp at this; omega
  obtain ⟨hok, hcnt⟩ := scan_ok (Sl.lines t) 0 [] hlen (by simp)
  have hcnt2 : (Sl.scan 0 (Sl.lines t) []).1.length ≤ 2001 := by
    have := Sl.lgo_len t []
    simp at hcnt this
    unfold Sl.lines at *
    omega
  obtain ⟨m1, m2⟩ := gatherS_mem _ _ _ h3 (fun a ha => (hok a ha).2.1)
  refine ⟨fun x hx => ?_, by rw [m1]; simp; exact hcnt2⟩
  rcases m2 x hx with e | ⟨a, ha, rfl⟩
  · simp at e
  · exact ⟨(hok a ha).2.2.1, (hok a ha).2.2.2⟩

/-- A sluice whose limits are the table l. -/
structure IsSl (w : World) (sb tb mb n : Nat) (l : List (Sl.Subj × Sl.Lim)) : Prop where
  at_ : SluiceAt w sb tb
  table : IsTable w tb mb n l
  low : 6 ≤ sb
  apart : sb ≠ tb ∧ sb ≠ mb

theorem IsTable.lt {w : World} {tb mb n : Nat} {l : List (Sl.Subj × Sl.Lim)} (h : IsTable w tb mb n l) : tb < w.heap.size := by
  rcases h.cells with h | h <;> exact (Array.getElem?_eq_some_iff.1 h).1

theorem IsTable.shape {w : World} {tb mb n : Nat} {l : List (Sl.Subj × Sl.Lim)} (h : IsTable w tb mb n l) : w.shape? tb = some (88, 5) := by
  rcases h.cells with h | h <;> exact shape_table h rfl

theorem IsTable.map {w : World} {tb mb n : Nat} {l : List (Sl.Subj × Sl.Lim)} (h : IsTable w tb mb n l) : w.cell? ⟨tb, 0, none⟩ = some (.map (some mb)) := by
  rcases h.cells with h | h <;> exact h.cells.1

/-- The three blocks of a sluice as they were: it holds the same. -/
theorem IsSl.blocks {w w' : World} {sb tb mb n : Nat} {l : List (Sl.Subj × Sl.Lim)} (h : IsSl w sb tb mb n l) {row : Option Nat} (hg : w.grownBy w' row) (h1 : some sb ≠ row) (h2 : some tb ≠ row) (h3 : some mb ≠ row) : IsSl w' sb tb mb n l := by
  have hsb := h.at_.cell.2.2
  refine ⟨(hg.block sb hsb h1).trans h.at_, ⟨?_, h.table.own.kept hg h3, h.table.ok, h.table.low, h.table.ne⟩, h.low, h.apart⟩
  have htb := hg.block tb h.table.lt h2
  rcases h.table.cells with c | c
  · exact .inl (htb.trans c)
  · exact .inr (htb.trans c)

theorem IsSl.below {w w' : World} {sb tb mb n : Nat} {l : List (Sl.Subj × Sl.Lim)} (h : IsSl w sb tb mb n l) (hb : Below w.heap.size w w') : IsSl w' sb tb mb n l :=
  h.blocks (row := none) ⟨hb.os, hb.tape, hb.output, hb.size, fun k hk _ => hb.block k hk⟩ (by simp) (by simp) (by simp)

set_option maxRecDepth 100000 in
set_option maxHeartbeats 1000000 in
theorem limits_any (l : List (Sl.Subj × Sl.Lim)) (sb tb mb n : Nat) (w : World) (h : IsSl w sb tb mb n l) (hE : Env w) :
    Calls Tryz.prog 11 #[.pointer (some ⟨sb, 0, none⟩)] w fun e w' => e = .returned (.string ⟨(textOf l).toArray⟩) ∧ IsSl w' sb tb mb n l ∧ w.grownBy w' (some tb) := by
  have hld := hide (load_any sb tb w h.at_.cell.1 h.table.shape)
  have htx := hide (text_any l tb mb n w h.table hE)
  obtain ⟨c0, f0, hsb⟩ := h.at_.cell
  have HH := hide h; clear h hE
  go_enter Tryz.func11, Tryz.ntmps11
  go_wp2_with fail
  refine (unhide hld).mono ?_
  rintro e w1 ⟨rfl, rfl⟩
  go_wp2_with fail
  refine (unhide htx).mono ?_
  rintro e w2 ⟨rfl, ht, hg⟩
  have HT := hide ht; have HG := hide hg; clear ht hg
  go_wp2
  go_ret
  have h := unhide HH; have hg := unhide HG
  exact ⟨rfl, ⟨(hg.block sb hsb (by simp; exact h.apart.1)).trans h.at_, unhide HT, h.low, h.apart⟩, hg⟩

theorem nameLen_len : ∀ (l : List UInt8) (k : Nat), Sl.nameLen l = some k → l.length ≤ 2 * k
  | [], k, _ => by simp
  | [c], k, h => by
    unfold Sl.nameLen at h
    split at h
    · cases h; simp
    · cases h
  | c :: d :: r, k, h => by
    unfold Sl.nameLen at h
    split at h
    · obtain ⟨m, hm, rfl⟩ := Option.map_eq_some_iff.1 h
      have := nameLen_len (d :: r) m hm
      simp at this ⊢; omega
    · split at h
      · obtain ⟨m, hm, rfl⟩ := Option.map_eq_some_iff.1 h
        have := nameLen_len r m hm
        simp at this ⊢; omega
      · cases h

theorem isName_len {l : List UInt8} (h : Sl.isName l = true) : 1 ≤ l.length ∧ l.length ≤ 16 := by
  unfold Sl.isName Sl.nameCont at h
  cases hn : Sl.nameLen l with
  | none => rw [hn] at h; simp at h
  | some m =>
    rw [hn] at h
    simp at h
    have h2 := nameLen_len l m hn
    refine ⟨?_, by omega⟩
    cases l with
    | nil => simp [Sl.nameLen] at hn; omega
    | cons a r => simp

/-- What Limit answers: the limit, the error. -/
def limitA (l : List (Sl.Subj × Sl.Lim)) (cls org ten : List UInt8) : Sl.Lim × Nat :=
  if (bucketA cls org ten).2 = true then (limitS l (bucketA cls org ten).1 org ten, 0) else (noLim, 5)

theorem bucketA_ok {cls org ten : List UInt8} (h : (bucketA cls org ten).2 = true) : (bucketA cls org ten).1 < 2 ∧ org.length ≤ 2000 ∧ ten.length ≤ 2000 := by
  unfold bucketA at *
  cases hc : Sl.classOf cls with
  | none => rw [hc] at h; simp at h
  | some c =>
    rw [hc] at h
    simp only [] at h ⊢
    by_cases hn : Sl.isName org = true
    · rw [if_pos hn] at h ⊢
      have h1 := isName_len hn
      refine ⟨Sl.classOf_lt hc, by omega, ?_⟩
      simp at h
      rcases h with h | h
      · rw [h]; simp
      · have h2 := isName_len h; omega
    · rw [if_neg hn] at h; simp at h

set_option maxRecDepth 100000 in
set_option maxHeartbeats 1000000 in
theorem limit_any (l : List (Sl.Subj × Sl.Lim)) (sb tb mb n : Nat) (cls org ten : List UInt8) (w : World) (h : IsSl w sb tb mb n l) :
    Calls Tryz.prog 14 #[.pointer (some ⟨sb, 0, none⟩), .string ⟨cls.toArray⟩, .string ⟨org.toArray⟩, .string ⟨ten.toArray⟩] w fun e w' => e = .returned (.tuple #[limV (limitA l cls org ten).1, .int .i64 (limitA l cls org ten).2]) ∧ Below w.heap.size w w' := by
  have hrb := hide (readBucket_any cls org ten (w.alloc (.cells #[.int .i64 0, .int .i64 0] 27)))
  have hsb := h.at_.cell.2.2
  have HH := hide h; clear h
  unfold limitA
  have hok := fun h => bucketA_ok (cls := cls) (org := org) (ten := ten) h
  generalize bucketA cls org ten = ba at *
  obtain ⟨c, good⟩ := ba
  simp only [] at *
  cases good with
  | false =>
    clear hok
    simp only [Bool.false_eq_true, if_false]
    go_enter Tryz.func14, Tryz.ntmps14
    go_wp2_with fail
    refine (unhide hrb).mono ?_
    rintro e w1 ⟨rfl, hb⟩
    have rb := Two.keep (Two.made w (.int .i64 0) (.int .i64 0) 27) hb (by simp)
    obtain ⟨b0, b1, v0, v1, bn⟩ := rb
    have HB : Hid (Below w.heap.size w w1) := hide ((Below.alloc1 _ _).trans (hb.mono (by simp)))
    clear hb
    go_wp2
    refine bodyPost_ret (v := .tuple #[limV noLim, .int .i64 5]) (by simp [results, Tryz.results14, go_sem, limV, noLim, b0, b1]) rfl ⟨rfl, ?_⟩
    exact ((unhide HB).setCell (Nat.le_refl _) _).setCell (Nat.le_refl _) _
  | true =>
    obtain ⟨hc2, ho, ht⟩ := hok rfl
    simp only [if_true]
    clear hok
    generalize hlim : limitS l c org ten = lim
    have HLIM := hide hlim; clear hlim
    go_enter Tryz.func14, Tryz.ntmps14
    go_wp2_with fail
    refine (unhide hrb).mono ?_
    rintro e w1 ⟨rfl, hb⟩
    have rb := Two.keep (Two.made w (.int .i64 0) (.int .i64 0) 27) hb (by simp)
    have hbw : Below w.heap.size w w1 := (Below.alloc1 _ _).trans (hb.mono (by simp))
    have h1 := (unhide HH).below hbw
    have hld := hide (load_any sb tb w1 h1.at_.cell.1 h1.table.shape)
    have htl := hide (tabLimit_any l tb mb n c org ten w1 h1.table.map h1.table.own h1.table.ok.1 hc2 ho ht)
    obtain ⟨s0, s1, s2⟩ := h1.at_.cell
    have HB := hide hbw; have RB := hide rb
    clear hb hbw h1 rb
    go_wp2_with fail
    refine (unhide hld).mono ?_
    rintro e w2 ⟨rfl, rfl⟩
    go_wp2_with fail
    refine (unhide htl).mono ?_
    rintro e w3 ⟨rfl, hb3⟩
    rw [unhide HLIM]
    obtain ⟨b0, b1, v0, v1, bn⟩ := (unhide RB).keep hb3 (unhide RB).2.2.2.2
    have HB3 : Hid (Below w.heap.size w w3) := hide ((unhide HB).trans (hb3.mono (unhide HB).size))
    clear hb3
    unfold limV
    go_wp2
    refine bodyPost_ret (v := .tuple #[.agg #[.int .i64 lim.rate, .int .i64 lim.burst], .int .i64 0]) (by simp [results, Tryz.results14, go_sem, b0, b1]) rfl ⟨rfl, ?_⟩
    exact ((unhide HB3).setCell (Nat.le_refl _) _).setCell (Nat.le_refl _) _

theorem IsTable.fresh {w : World} {tb mb n : Nat} {t : List UInt8} {l : List (Sl.Subj × Sl.Lim)} (hf : FreshTable w tb mb) (ho : w.ownsMap Tryz.prog 125 limR mb n (tabD l)) (hl : OkL l) (ht : (readS t).1 = some l) (hlow : 6 ≤ tb) (hne : mb ≠ tb) : IsTable w tb mb n l :=
  ⟨.inl hf, ho, ⟨hl, fun x hx => ⟨((readS_lim ht).1 x hx).1.2, ((readS_lim ht).1 x hx).2.2⟩, (readS_lim ht).2⟩, hlow, hne⟩

theorem grown_below {w w' : World} {row : Option Nat} (hb : Below w.heap.size w w') : w.grownBy w' row := ⟨hb.os, hb.tape, hb.output, hb.size, fun k hk _ => hb.block k hk⟩

theorem set_sluice {w : World} {sb : Nat} {v : Value} (h : w.heap[sb]? = some (.cells #[v] 73 (0, 0))) (tb : Nat) : SluiceAt (w.setCell ⟨sb, 0, none⟩ (.pointer (some ⟨tb, 0, none⟩))) sb tb := heap_setCell_at h 0 _

set_option maxRecDepth 100000 in
set_option maxHeartbeats 1000000 in
/-- Reload, at a sluice that holds limits, or none yet. -/
theorem reload_any (t : List UInt8) (sb : Nat) (v : Value) (w : World) (h : w.heap[sb]? = some (.cells #[v] 73 (0, 0))) (hsb : 6 ≤ sb) (hE : Env w) :
    Calls Tryz.prog 18 #[.pointer (some ⟨sb, 0, none⟩), .string ⟨t.toArray⟩] w fun e w' =>
      e = .returned (.tuple #[.int .i64 (readS t).2.1, .int .i64 (readS t).2.2]) ∧
      match (readS t).1 with
      | none => Below w.heap.size w w' ∧ (readS t).2.1 ≠ 0
      | some l => w.grownBy w' (some sb) ∧ (readS t).2.1 = 0 ∧ (readS t).2.2 = 0 ∧ ∃ tb mb n, IsSl w' sb tb mb n l ∧ w.heap.size ≤ tb ∧ w.heap.size ≤ mb := by
  obtain ⟨m, hm⟩ := hE.len
  have hrd := read_any ⟨t.toArray⟩ m w hm
  simp only [] at hrd
  have hlt : sb < w.heap.size := (Array.getElem?_eq_some_iff.1 h).1
  have hsz := hE.size
  have c0 : w.cell? ⟨sb, 0, none⟩ = some v := by simp [World.cell?, h]
  have f0 : w.frozen? ⟨sb, 0, none⟩ = false := by simp [World.frozen?, h]
  have HH := hide h; clear h hm hE
  have hrs := readS_none t
  have hrs2 : ∀ l, (readS t).1 = some l → (readS t).2 = (0, 0) := fun l hl => (readS_some hl).2.2.2.2
  have hfr := fun w tb mb n l => IsTable.fresh (w := w) (tb := tb) (mb := mb) (n := n) (t := t) (l := l)
  generalize readS t = rs at *
  obtain ⟨o, en, line⟩ := rs
  simp only [] at *
  have HR := hide hrd; clear hrd
  cases o with
  | none =>
    have hen := hrs rfl
    simp only [] at HR ⊢
    clear hrs hrs2 hfr HH
    go_enter Tryz.func18, Tryz.ntmps18
    go_wp2_with fail
    refine (unhide HR).mono ?_
    rintro e w1 ⟨hb, rfl⟩
    have hp : (0 : Int) < en := by omega
    go_wp2
    go_ret2
    exact ⟨rfl, hb, by omega⟩
  | some l =>
    have hen := hrs2 l rfl
    simp only [Prod.mk.injEq] at hen
    obtain ⟨rfl, rfl⟩ := hen
    have hfr2 := hide (fun w tb mb n hf ho hl => hfr w tb mb n l hf ho hl rfl)
    clear hrs hrs2 hfr
    simp only [] at HR ⊢
    go_enter Tryz.func18, Tryz.ntmps18
    go_wp2_with fail
    refine (unhide HR).mono ?_
    rintro e w1 ⟨hb, tb, mb, n, rfl, hf, ho, hl, hmb, htb, hne⟩
    have hIT := unhide hfr2 w1 tb mb n hf ho hl (by omega) hne
    have hblk : w1.heap[sb]? = some (.cells #[v] 73 (0, 0)) := (hb.block sb hlt).trans (unhide HH)
    have d0 : w1.cell? ⟨sb, 0, none⟩ = some v := by simp [World.cell?, hblk]
    have g0 : w1.frozen? ⟨sb, 0, none⟩ = false := by simp [World.frozen?, hblk]
    have hst := hide (store_any sb tb v (.map (some mb)) w1 d0 g0 hIT.map)
    have HIT := hide hIT; have HB := hide hb; have HBL := hide hblk
    clear hf ho hl hIT hb hblk
    go_wp2_with fail
    refine (unhide hst).mono ?_
    rintro e w2 ⟨rfl, rfl⟩
    go_wp2
    go_ret2
    have hg : w1.grownBy (w1.setCell ⟨sb, 0, none⟩ (.pointer (some ⟨tb, 0, none⟩))) (some sb) := grown_set w1 sb 0 _
    have hT := unhide HIT
    refine ⟨rfl, (grown_below (unhide HB)).trans hg, trivial, trivial, tb, mb, n, ⟨set_sluice (unhide HBL) tb, ⟨?_, hT.own.kept hg (by simp; omega), hT.ok, hT.low, hT.ne⟩, hsb, by omega, by omega⟩, htb, hmb⟩
    have htb2 := hg.block tb hT.lt (by simp; omega)
    rcases hT.cells with c | c
    · exact .inl (htb2.trans c)
    · exact .inr (htb2.trans c)

set_option maxRecDepth 100000 in
set_option maxHeartbeats 1000000 in
theorem new_any (t : List UInt8) (w : World) (hE : Env w) :
    Calls Tryz.prog 8 #[.string ⟨t.toArray⟩] w fun e w' => Below w.heap.size w w' ∧
      match (readS t).1 with
      | none => e = .returned (.tuple #[.pointer none, .int .i64 (readS t).2.1, .int .i64 (readS t).2.2]) ∧ (readS t).2.1 ≠ 0
      | some l => ∃ sb tb mb n, e = .returned (.tuple #[.pointer (some ⟨sb, 0, none⟩), .int .i64 0, .int .i64 0]) ∧ IsSl w' sb tb mb n l ∧ w.heap.size ≤ sb ∧ w.heap.size ≤ tb ∧ w.heap.size ≤ mb := by
  have hrl := reload_any t w.heap.size (.pointer none) (w.alloc (.cells #[.pointer none] 73)) (MapKept.heap_alloc w _).1 hE.size (hE.below (Below.alloc1 w _) hE.size)
  have hE2 := hE.size
  generalize readS t = rs at *
  obtain ⟨o, en, line⟩ := rs
  simp only [] at *
  have HR := hide hrl; clear hrl hE
  cases o with
  | none =>
    simp only [] at HR ⊢
    go_enter Tryz.func8, Tryz.ntmps8
    go_wp2_with fail
    refine (unhide HR).mono ?_
    rintro e w1 ⟨rfl, hb, hne⟩
    have hp : (0 : Int) < en := by omega
    have HB : Hid (Below w.heap.size w w1) := hide ((Below.alloc1 _ _).trans (hb.mono (by simp)))
    clear hb
    go_wp2
    go_ret3
    exact ⟨unhide HB, rfl, hne⟩
  | some l =>
    simp only [] at HR ⊢
    go_enter Tryz.func8, Tryz.ntmps8
    go_wp2_with fail
    refine (unhide HR).mono ?_
    rintro e w1 ⟨rfl, hg, rfl, rfl, tb, mb, n, hsl, htb, hmb⟩
    have HB : Hid (Below w.heap.size w w1) := hide ((Below.alloc1 w _).grown hg (by simp) (fun j hj => by cases hj; exact Nat.le_refl _))
    have HS := hide hsl
    simp at htb hmb
    clear hg hsl
    go_wp2
    go_ret3
    exact ⟨unhide HB, w.heap.size, tb, mb, n, rfl, unhide HS, Nat.le_refl _, by omega, by omega⟩

end Go.Proofs.YtapbajcmnngamaaGreatDoor
