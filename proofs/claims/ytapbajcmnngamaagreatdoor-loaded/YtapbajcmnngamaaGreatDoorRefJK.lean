/-
  The document's answer: New and Reload.
  Plain facts for the document's Limits: the least line behind the last one.
-/
import Derived.Test.YtapbajcmnngamaaGreatDoorRefI
import Derived.Test.YtapbajcmnngamaaGreatDoorParse2
namespace Go.Proofs.YtapbajcmnngamaaGreatDoor
open Go.RowKit Go.Maps Go.Sort

theorem refRead_any (t : List UInt8) (w : World) : Calls Tryz.prog 58 #[.string ⟨t.toArray⟩] w (ReadP t w) := by
  by_cases h : 2000 < t.length
  · exact refRead_long t w h
  · exact refRead_short t w (by omega)

theorem gatherS_ok : ∀ (ss : List Sl.Saying) (acc l : List (Sl.Subj × Sl.Lim)), OkL acc → (∀ a ∈ ss, OkS a.about ∧ a.at_ ≠ 0) → gatherS ss acc = (l, 0) → OkL l
  | [], acc, l, h, _, e => by cases e; exact h
  | a :: r, acc, l, h, hs, e => by
    unfold gatherS at e
    split at e
    · exact absurd (congrArg Prod.snd e) (hs a (List.mem_cons_self ..)).2
    · next hn =>
      exact gatherS_ok r _ l (h.more (hs a (List.mem_cons_self ..)).1 (by cases hq : look acc a.about with
        | none => rfl
        | some m => rw [hq] at hn; exact absurd rfl hn)) (fun b hb => hs b (List.mem_cons_of_mem _ hb)) e

theorem readS_ok {t : List UInt8} {l : List (Sl.Subj × Sl.Lim)} (h : (readS t).1 = some l) : OkT l ∧ defaultsB l = true := by
  obtain ⟨ht, h0, hg, hd, _⟩ := readS_some h
  obtain ⟨hl, hn⟩ := readS_lim h
  have hsc := scan_ok (Sl.lines t) 0 [] (fun x hx => by have := Sl.lgo_mem _ _ _ hx; simp at this; omega) (by simp)
  exact ⟨⟨gatherS_ok _ _ _ ⟨by simp, List.Pairwise.nil⟩ (fun a ha => ⟨(hsc.1 a ha).1, (hsc.1 a ha).2.1⟩) hg, fun x hx => ⟨(hl x hx).1.2, (hl x hx).2.2⟩, hn⟩, hd⟩

set_option maxRecDepth 100000 in
set_option maxHeartbeats 4000000 in
theorem refNew_any (t : List UInt8) (w : World) (hG : 6 ≤ w.heap.size) :
    Calls Tryz.prog 31 #[.string ⟨t.toArray⟩] w fun e w' => Below w.heap.size w w' ∧
      (((readS t).1 = none ∧ e = .returned (.tuple #[.pointer none, .int .i64 (readS t).2.1, .int .i64 (readS t).2.2])) ∨
       ∃ l rb v, (readS t).1 = some l ∧ e = .returned (.tuple #[.pointer (some ⟨rb, 0, none⟩), .int .i64 0, .int .i64 0]) ∧ IsRef w' rb v l ∧ w.heap.size ≤ rb ∧ ∀ g, v.ownBlock = some g → w.heap.size ≤ g) := by
  have hrd := hide (refRead_any t w)
  cases hr : (readS t).1 with
  | none =>
    have hpos := readS_none t hr
    have HR := hide hr
    have hne : (((readS t).2.1 : Int) == 0) = false := by rw [beq_eq_false_iff_ne]; omega
    clear hr hpos
    go_enter Tryz.func31, Tryz.ntmps31
    go_wp2_with fail
    refine (unhide hrd).mono ?_
    rintro e w1 ⟨hb, v, rfl, -⟩
    go_wp2
    go_ret3
    exact ⟨hb, .inl ⟨trivial, rfl⟩⟩
  | some l =>
    obtain ⟨hok, hd⟩ := readS_ok hr
    have h0 := (readS_some hr).2.2.2.2
    have HH := hide (And.intro hok (And.intro hd hr))
    have H0 := hide h0
    clear hok hd hr h0
    go_enter Tryz.func31, Tryz.ntmps31
    go_wp2_with fail
    refine (unhide hrd).mono ?_
    rintro e w1 ⟨hb, v, rfl, hv⟩
    have hown : w1.ownsRow w.heap.size 137 6 v l.length (saidAll l) := by
      rcases hv with ⟨h, _⟩ | ⟨l', h, ho⟩
      · rw [(unhide HH).2.2] at h; cases h
      · rw [(unhide HH).2.2] at h; cases h; exact ho
    rw [unhide H0]
    have HO := hide hown
    have hs := hb.size
    clear hv hown
    obtain ⟨a5, c5, e5⟩ : ∃ a c, v = .slice a l.length c := by
      rcases own_shape (unhide HO) with ⟨h, h2⟩ | ⟨g, cap, h, _⟩
      · exact ⟨_, _, by rw [h, h2]⟩
      · exact ⟨_, _, h⟩
    subst e5
    go_wp2
    go_ret3
    refine ⟨hb.alloc hs _, .inr ⟨l, w1.heap.size, .slice a5 l.length c5, rfl, rfl, ⟨(MapKept.heap_alloc w1 _).1, own_weak (own_below (unhide HO) (Below.alloc1 _ _)) (Nat.zero_le _), (unhide HH).1, (unhide HH).2.1, by omega⟩, hs, own_base (unhide HO)⟩⟩

set_option maxRecDepth 100000 in
set_option maxHeartbeats 4000000 in
theorem refReload_any (t : List UInt8) (rb : Nat) (v : Value) (l : List (Sl.Subj × Sl.Lim)) (w : World) (h : IsRef w rb v l) :
    Calls Tryz.prog 32 #[.pointer (some ⟨rb, 0, none⟩), .string ⟨t.toArray⟩] w fun e w' => e = .returned (.tuple #[.int .i64 (readS t).2.1, .int .i64 (readS t).2.2]) ∧ w.grownBy w' (some rb) ∧
      (((readS t).1 = none ∧ Below w.heap.size w w') ∨ ∃ l' v', (readS t).1 = some l' ∧ IsRef w' rb v' l' ∧ ∀ g, v'.ownBlock = some g → w.heap.size ≤ g) := by
  have hrd := hide (refRead_any t w)
  have hrb := h.lt
  have hat := h.at_
  have hlow := h.low
  cases hr : (readS t).1 with
  | none =>
    have hpos := readS_none t hr
    have hne : (((readS t).2.1 : Int) == 0) = false := by rw [beq_eq_false_iff_ne]; omega
    clear hr hpos h
    go_enter Tryz.func32, Tryz.ntmps32
    go_wp2_with fail
    refine (unhide hrd).mono ?_
    rintro e w1 ⟨hb, v, rfl, -⟩
    go_wp2
    go_ret2
    exact ⟨rfl, grown_below hb, .inl ⟨trivial, hb⟩⟩
  | some l' =>
    obtain ⟨hok, hd⟩ := readS_ok hr
    have h0 := (readS_some hr).2.2.2.2
    have HH := hide (And.intro hok (And.intro hd hr))
    have H0 := hide h0
    rw [h0]
    clear hok hd hr h0 h
    go_enter Tryz.func32, Tryz.ntmps32
    go_wp2_with fail
    refine (unhide hrd).mono ?_
    rintro e w1 ⟨hb, v', rfl, hv⟩
    have hown : w1.ownsRow w.heap.size 137 6 v' l'.length (saidAll l') := by
      rcases hv with ⟨h, _⟩ | ⟨l2, h, ho⟩
      · rw [(unhide HH).2.2] at h; cases h
      · rw [(unhide HH).2.2] at h; cases h; exact ho
    rw [unhide H0]
    have HO := hide hown
    have hs := hb.size
    have hat1 : w1.heap[rb]? = some (.cells #[v, .slice none 0 0, .int .i64 0] 106 (0, 0)) := (hb.block rb hrb).trans hat
    have HAT := hide hat1
    have hc0 : w1.cell? ⟨rb, 0, none⟩ = some v := by simp [World.cell?, hat1]
    have hf0 : w1.frozen? ⟨rb, 0, none⟩ = false := by simp [World.frozen?, hat1]
    clear hv hown hat1 hat
    obtain ⟨a5, c5, e5⟩ : ∃ a c, v' = .slice a l'.length c := by
      rcases own_shape (unhide HO) with ⟨h, h2⟩ | ⟨g, cap, h, _⟩
      · exact ⟨_, _, by rw [h, h2]⟩
      · exact ⟨_, _, h⟩
    subst e5
    go_wp2
    go_ret2
    have hne : rb ≠ w1.heap.size := by omega
    refine ⟨rfl, (grown_below (row := some rb) hb).trans (grown_set w1 rb 0 _), .inr ⟨l', _, rfl, ⟨heap_setCell_at (unhide HAT) 0 _, ?_, (unhide HH).1, (unhide HH).2.1, hlow⟩, own_base (unhide HO)⟩⟩
    refine own_weak ((unhide HO).kept (grown_set w1 rb 0 _) ?_) (Nat.zero_le _)
    cases hq : (Value.slice a5 l'.length c5).ownBlock with
    | none => exact .inl rfl
    | some g =>
      right
      have := own_base (unhide HO) g hq
      intro e
      cases e
      omega

end Go.Proofs.YtapbajcmnngamaaGreatDoor

namespace Go.Proofs.YtapbajcmnngamaaGreatDoor
open Go.RowKit Go.Maps Go.Sort

/-- A line, or one of the two that are none: what 'before' looks at, and the limit. -/
structure Ln where
  kind : Int
  cls : Int
  org : List UInt8
  ten : List UInt8
  rate : Int
  burst : Int

def lnOf (x : Sl.Subj × Sl.Lim) : Ln := ⟨x.1.kind, x.1.cls, x.1.org, x.1.ten, x.2.rate, x.2.burst⟩
def lnV (x : Ln) : Value := said6 x.kind x.cls ⟨x.org.toArray⟩ ⟨x.ten.toArray⟩ x.rate x.burst
def bef (a b : Ln) : Bool := beforeB a.kind a.cls a.org a.ten b.kind b.cls b.org b.ten
def firstLn : Ln := ⟨-1, 0, [], [], 0, 0⟩
def lastLn : Ln := ⟨9, 0, [], [], 0, 0⟩

theorem befLn_any (a b : Ln) (w : World) :
    Calls Tryz.prog 59 #[lnV a, lnV b] w fun e w' => e = .returned (.bool (bef a b)) ∧ Below w.heap.size w w' :=
  before_any a.kind a.cls a.org a.ten a.rate a.burst b.kind b.cls b.org b.ten b.rate b.burst w

theorem bef_lt (x y : Sl.Subj × Sl.Lim) : bef (lnOf x) (lnOf y) = true ↔ ltS x.1 y.1 := by
  unfold bef beforeB lnOf ltS
  simp only []
  by_cases hk : x.1.kind = y.1.kind
  · rw [if_pos (by omega)]
    by_cases ho : x.1.org = y.1.org
    · rw [if_pos ho]
      by_cases ht : x.1.ten = y.1.ten
      · rw [if_pos ht]
        simp [hk, ho, ht, less_irrefl]
      · rw [if_neg ht]
        simp [hk, ho, ht, less_irrefl]
    · rw [if_neg ho]
      simp [hk, ho]
  · rw [if_neg (by omega)]
    simp [hk]

theorem bef_first (x : Sl.Subj × Sl.Lim) : bef firstLn (lnOf x) = true := by
  unfold bef beforeB firstLn lnOf
  simp only []
  rw [if_neg (by omega)]
  simp; omega
theorem bef_last (x : Sl.Subj × Sl.Lim) (h : x.1.kind < 4) : bef (lnOf x) lastLn = true := by
  unfold bef beforeB lastLn lnOf
  simp only []
  rw [if_neg (by omega)]
  simp; omega

/-- The subjects in their order. -/
def ordS (l : List (Sl.Subj × Sl.Lim)) : List Sl.Subj := sortS (l.map (·.1))

theorem ord_strict {l : List (Sl.Subj × Sl.Lim)} (h : OkL l) : (ordS l).Pairwise ltS := by
  have h1 : (ordS l).Pairwise fun a b => leS a b = true := List.pairwise_mergeSort leS_trans leS_total _
  have h2 : (ordS l).Pairwise fun a b => a ≠ b := by
    have : (l.map (·.1)).Pairwise fun a b => a ≠ b := List.pairwise_map.2 h.2
    exact (sortS_perm _).symm.pairwise this (fun hab => hab.symm)
  refine (h1.and h2).imp ?_
  intro a b ⟨h3, h4⟩
  rw [leS_iff] at h3
  rcases ltS_total a b with g | g | g
  · exact g
  · exact absurd g h4
  · exact absurd g h3

theorem ord_mem {l : List (Sl.Subj × Sl.Lim)} {s : Sl.Subj} : s ∈ ordS l ↔ ∃ x ∈ l, x.1 = s := by
  rw [ordS, (sortS_perm _).mem_iff, List.mem_map]

theorem ord_len (l : List (Sl.Subj × Sl.Lim)) : (ordS l).length = l.length := by
  rw [ordS, (sortS_perm _).length_eq, List.length_map]

/-- The last line that was told, when k lines are told. -/
def Last (l : List (Sl.Subj × Sl.Lim)) (k : Nat) (a : Ln) : Prop := ∀ x ∈ l, bef a (lnOf x) = true ↔ ∃ i, k ≤ i ∧ (ordS l)[i]? = some x.1

theorem last_start (l : List (Sl.Subj × Sl.Lim)) : Last l 0 firstLn := by
  intro x hx
  refine ⟨fun _ => ?_, fun _ => bef_first x⟩
  obtain ⟨i, hi, e⟩ := List.getElem_of_mem (ord_mem.2 ⟨x, hx, rfl⟩)
  exact ⟨i, Nat.zero_le _, by rw [List.getElem?_eq_getElem hi, e]⟩

theorem ord_lt {l : List (Sl.Subj × Sl.Lim)} (h : OkL l) {i j : Nat} {a b : Sl.Subj} (ha : (ordS l)[i]? = some a) (hb : (ordS l)[j]? = some b) : ltS a b ↔ i < j := by
  obtain ⟨hi, rfl⟩ := List.getElem?_eq_some_iff.1 ha
  obtain ⟨hj, rfl⟩ := List.getElem?_eq_some_iff.1 hb
  have hs := List.pairwise_iff_getElem.1 (ord_strict h)
  constructor
  · intro hl
    apply Classical.byContradiction
    intro hn
    by_cases e : i = j
    · subst e; exact ltS_irrefl _ hl
    · exact ltS_irrefl _ (ltS_trans hl (hs j i hj hi (by omega)))
  · exact fun hl => hs i j hi hj hl

theorem last_next {l : List (Sl.Subj × Sl.Lim)} (h : OkL l) {k : Nat} {x : Sl.Subj × Sl.Lim} (hx : (ordS l)[k]? = some x.1) : Last l (k + 1) (lnOf x) := by
  intro y hy
  rw [bef_lt]
  obtain ⟨i, hi, e⟩ := List.getElem_of_mem (ord_mem.2 ⟨y, hy, rfl⟩)
  have hyi : (ordS l)[i]? = some y.1 := by rw [List.getElem?_eq_getElem hi, e]
  rw [ord_lt h hx hyi]
  constructor
  · exact fun hl => ⟨i, hl, hyi⟩
  · rintro ⟨j, hj, e2⟩
    apply Classical.byContradiction
    intro hn
    have h1 : ¬ ltS y.1 y.1 := ltS_irrefl _
    rw [ord_lt h hyi e2] at h1
    omega

/-- The least line behind the last one, among the first i. -/
def Best (l : List (Sl.Subj × Sl.Lim)) (a : Ln) (i : Nat) (b : Ln) : Prop :=
  (b = lastLn ∧ ∀ x ∈ l.take i, bef a (lnOf x) = false) ∨ ∃ x ∈ l.take i, b = lnOf x ∧ bef a (lnOf x) = true ∧ ∀ y ∈ l.take i, bef a (lnOf y) = true → bef (lnOf y) (lnOf x) = false

theorem best_start (l : List (Sl.Subj × Sl.Lim)) (a : Ln) : Best l a 0 lastLn := .inl ⟨rfl, by simp⟩

theorem take_mem {l : List (Sl.Subj × Sl.Lim)} {i : Nat} (hi : i < l.length) {P : (Sl.Subj × Sl.Lim) → Prop} (h : ∀ x ∈ l.take i, P x) (h2 : P l[i]) : ∀ x ∈ l.take (i + 1), P x := by
  intro x hx
  rw [List.take_succ_eq_append_getElem hi] at hx
  rcases List.mem_append.1 hx with hx | hx
  · exact h x hx
  · simp at hx; subst hx; exact h2

theorem mem_take {l : List (Sl.Subj × Sl.Lim)} {i : Nat} (hi : i < l.length) {x : Sl.Subj × Sl.Lim} (h : x ∈ l.take i) : x ∈ l.take (i + 1) := by
  rw [List.take_succ_eq_append_getElem hi]; exact List.mem_append.2 (.inl h)
theorem nth_take {l : List (Sl.Subj × Sl.Lim)} {i : Nat} (hi : i < l.length) : l[i] ∈ l.take (i + 1) := by
  rw [List.take_succ_eq_append_getElem hi]; exact List.mem_append.2 (.inr (by simp))

theorem bef_asymm {x y : Sl.Subj × Sl.Lim} (h : bef (lnOf x) (lnOf y) = true) : bef (lnOf y) (lnOf x) = false := by
  cases e : bef (lnOf y) (lnOf x) with
  | false => rfl
  | true =>
    rw [bef_lt] at h e
    exact absurd (ltS_trans h e) (ltS_irrefl _)

theorem bef_trans_no {x y z : Sl.Subj × Sl.Lim} (h1 : bef (lnOf x) (lnOf z) = false) (h2 : bef (lnOf y) (lnOf z) = true) : bef (lnOf x) (lnOf y) = false := by
  cases e : bef (lnOf x) (lnOf y) with
  | false => rfl
  | true =>
    rw [bef_lt] at h2 e
    have : bef (lnOf x) (lnOf z) = true := (bef_lt _ _).2 (ltS_trans e h2)
    rw [this] at h1; cases h1

theorem best_take {l : List (Sl.Subj × Sl.Lim)} {a b : Ln} {i : Nat} (hi : i < l.length) (h : Best l a i b) (h1 : bef a (lnOf l[i]) = true) (h2 : bef (lnOf l[i]) b = true) : Best l a (i + 1) (lnOf l[i]) := by
  right
  refine ⟨l[i], nth_take hi, rfl, h1, take_mem hi ?_ ?_⟩
  · intro y hy hya
    rcases h with ⟨_, h⟩ | ⟨x, hx, rfl, hxa, hmin⟩
    · rw [h y hy] at hya; cases hya
    · exact bef_trans_no (hmin y hy hya) h2
  · intro _
    cases e : bef (lnOf l[i]) (lnOf l[i]) with
    | false => rfl
    | true => rw [bef_lt] at e; exact absurd e (ltS_irrefl _)

theorem best_keep {l : List (Sl.Subj × Sl.Lim)} {a b : Ln} {i : Nat} (hi : i < l.length) (hk : l[i].1.kind < 4) (h : Best l a i b) (h1 : ¬ (bef a (lnOf l[i]) = true ∧ bef (lnOf l[i]) b = true)) : Best l a (i + 1) b := by
  rcases h with ⟨rfl, h⟩ | ⟨x, hx, rfl, hxa, hmin⟩
  · left
    refine ⟨rfl, take_mem hi h ?_⟩
    cases e : bef a (lnOf l[i]) with
    | false => rfl
    | true => exact absurd ⟨e, bef_last _ hk⟩ h1
  · right
    refine ⟨x, mem_take hi hx, rfl, hxa, take_mem hi hmin ?_⟩
    intro h2
    cases e : bef (lnOf l[i]) (lnOf x) with
    | false => rfl
    | true => exact absurd ⟨h2, e⟩ h1

/-- What the inner loop leaves: nothing more, or the next line. -/
theorem best_end {l : List (Sl.Subj × Sl.Lim)} (hl : OkL l) {k : Nat} {a b : Ln} (ha : Last l k a) (h : Best l a l.length b) (hk : k ≤ l.length) :
    (b = lastLn ∧ k = l.length) ∨ ∃ x ∈ l, b = lnOf x ∧ (ordS l)[k]? = some x.1 ∧ k < l.length := by
  rw [Best, List.take_length] at h
  have hlen := ord_len l
  by_cases hkl : k < l.length
  · right
    have hko : k < (ordS l).length := by omega
    obtain ⟨z, hz, ez⟩ := ord_mem.1 (List.getElem_mem hko)
    have hzk : (ordS l)[k]? = some z.1 := by rw [List.getElem?_eq_getElem hko, ez]
    have hza : bef a (lnOf z) = true := (ha z hz).2 ⟨k, Nat.le_refl _, hzk⟩
    rcases h with ⟨_, h⟩ | ⟨x, hx, rfl, hxa, hmin⟩
    · rw [h z hz] at hza; cases hza
    · refine ⟨x, hx, rfl, ?_, hkl⟩
      obtain ⟨i, hi, e⟩ := (ha x hx).1 hxa
      have h1 := hmin z hz hza
      by_cases hik : i = k
      · subst hik; exact e
      · have : bef (lnOf z) (lnOf x) = true := (bef_lt _ _).2 ((ord_lt hl hzk e).2 (by omega))
        rw [this] at h1; cases h1
  · left
    refine ⟨?_, by omega⟩
    rcases h with ⟨rfl, _⟩ | ⟨x, hx, rfl, hxa, _⟩
    · rfl
    · obtain ⟨i, hi, e⟩ := (ha x hx).1 hxa
      have := (List.getElem?_eq_some_iff.1 e).1
      omega

/-- How a line begins. -/
def frontT (s : Sl.Subj) : List UInt8 := if s.kind = 0 then Sl.defaultW ++ 32 :: Sl.orgW else if s.kind = 1 then Sl.defaultW ++ 32 :: Sl.tenantW else if s.kind = 2 then Sl.orgW ++ 32 :: s.org else Sl.tenantW ++ 32 :: (s.org ++ 32 :: s.ten)

theorem line_parts (s : Sl.Subj) (m : Sl.Lim) : lineText s m = frontT s ++ (32 :: Sl.classW s.cls ++ [32]) ++ Lib.decDigits m.rate ++ [32] ++ Lib.decDigits m.burst ++ [10] := by
  unfold lineText frontW frontT
  rw [join_jn]
  split
  · simp [jn]
  · split
    · simp [jn]
    · split
      · simp [jn]
      · simp [jn]

end Go.Proofs.YtapbajcmnngamaaGreatDoor
