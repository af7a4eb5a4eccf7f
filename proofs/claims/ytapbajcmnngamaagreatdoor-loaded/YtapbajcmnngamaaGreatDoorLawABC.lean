/-
  The law's world: pairs of the program's sluice and the document's; what each call leaves of them.
  The law's world: looks, begin.
  The law's world: step.
-/
import Derived.Test.YtapbajcmnngamaaGreatDoorRefJK
import Derived.Test.YtapbajcmnngamaaGreatDoorRefM
namespace Go.Proofs.YtapbajcmnngamaaGreatDoor
open Go.RowKit Go.Maps Go.Sort

/-- Of which type a block's cells are. -/
def kindAt (w : World) (b : Nat) (t : TypeId) : Prop := ∃ cs fz, w.heap[b]? = some (.cells cs t fz)

theorem kindAt.ne {w : World} {b c : Nat} {s t : TypeId} (h : kindAt w b s) (h' : kindAt w c t) (hne : s ≠ t) : b ≠ c := by
  rintro rfl
  obtain ⟨cs, fz, h⟩ := h
  obtain ⟨cs', fz', h'⟩ := h'
  rw [h] at h'
  cases h'
  exact hne rfl

structure Pr where
  sb : Nat
  tb : Nat
  mb : Nat
  n : Nat
  rb : Nat
  v : Value
  l : List (Sl.Subj × Sl.Lim)
  lr : List (Sl.Subj × Sl.Lim)

structure PairAt (w : World) (p : Pr) : Prop where
  sl : IsSl w p.sb p.tb p.mb p.n p.l
  ref : IsRef w p.rb p.v p.lr

theorem PairAt.kinds {w : World} {p : Pr} (h : PairAt w p) : kindAt w p.sb 73 ∧ kindAt w p.tb 88 ∧ kindAt w p.rb 106 := by
  refine ⟨⟨_, _, h.sl.at_⟩, ?_, ⟨_, _, h.ref.at_⟩⟩
  rcases h.sl.table.cells with c | c
  · exact ⟨_, _, c⟩
  · exact ⟨_, _, c⟩

theorem PairAt.mapNe {w : World} {p : Pr} (h : PairAt w p) {x : Nat} {t : TypeId} (hx : kindAt w x t) : p.mb ≠ x := by
  rintro rfl
  obtain ⟨cs, fz, hx⟩ := hx
  obtain ⟨es, c, hm, _⟩ := h.sl.table.own
  rw [hm] at hx
  cases hx

theorem PairAt.rowNe {w : World} {p : Pr} (h : PairAt w p) {x : Nat} {t : TypeId} (hx : kindAt w x t) (ht : t ≠ 137) : p.v.ownBlock = none ∨ p.v.ownBlock ≠ some x := by
  rcases h.ref.own.2 with ⟨e, _⟩ | ⟨g, cap, cur, e, _, hg, _⟩
  · rw [e]; exact .inl rfl
  · right
    rw [e]
    simp only [Value.ownBlock]
    intro e2
    cases e2
    exact kindAt.ne ⟨_, _, hg⟩ hx (fun e3 => ht e3.symm) rfl

/-- A write into a block that is none of the pair's own. -/
theorem PairAt.grown {w w' : World} {p : Pr} (h : PairAt w p) {x : Nat} {t : TypeId} (hg : w.grownBy w' (some x)) (hx : kindAt w x t) (ht : t ≠ 137) (h1 : x ≠ p.sb) (h2 : x ≠ p.tb) (h3 : x ≠ p.rb) : PairAt w' p := by
  refine ⟨h.sl.blocks hg (by simpa using fun e => h1 e.symm) (by simpa using fun e => h2 e.symm) (by simpa using h.mapNe hx), ?_⟩
  exact ⟨(hg.block p.rb h.ref.lt (by simpa using fun e => h3 e.symm)).trans h.ref.at_, h.ref.own.kept hg (h.rowNe hx ht), h.ref.ok, h.ref.dflt, h.ref.low⟩

theorem PairAt.below {w w' : World} {p : Pr} (h : PairAt w p) (hb : Below w.heap.size w w') : PairAt w' p := ⟨h.sl.below hb, h.ref.below hb⟩

/-- Program and document hold the same limits. -/
def Agree (ps : List Pr) : Prop := ∀ p ∈ ps, p.l = p.lr

def Apart (p q : Pr) : Prop := p.sb ≠ q.sb ∧ p.tb ≠ q.tb ∧ p.rb ≠ q.rb

def pairC (p : Pr) : List Value := [.pointer (some ⟨p.sb, 0, none⟩), .pointer (some ⟨p.rb, 0, none⟩)]
def pairAll (ps : List Pr) : List Value := ps.flatMap pairC

theorem pairAll_at : ∀ (l : List Pr) (k : Nat) (hk : k < l.length) (j : Nat), j < 2 → (pairAll l)[k * 2 + j]? = (pairC l[k])[j]?
  | [], k, hk, _, _ => by simp at hk
  | x :: r, 0, _, j, hj => by
    show (pairC x ++ pairAll r)[0 * 2 + j]? = _
    rw [List.getElem?_append_left (by simp [pairC]; omega)]; simp
  | x :: r, k + 1, hk, j, hj => by
    show (pairC x ++ pairAll r)[(k + 1) * 2 + j]? = _
    rw [List.getElem?_append_right (by simp [pairC]; omega)]
    have e : (k + 1) * 2 + j - (pairC x).length = k * 2 + j := by simp [pairC]; omega
    rw [e, pairAll_at r k (by simpa using hk) j hj]; rfl

/-- The law's world. -/
structure LawW (w0 : World) (wb : Nat) (v : Value) (ps : List Pr) (W : World) : Prop where
  at_ : W.heap[wb]? = some (.cells #[v, .slice none 0 0, .bool false] 57 (0, 0))
  row : W.ownsRow w0.heap.size 100 2 v ps.length (pairAll ps)
  each : ∀ p ∈ ps, PairAt W p
  apart : ps.Pairwise Apart
  lows : ∀ p ∈ ps, w0.heap.size ≤ p.sb ∧ w0.heap.size ≤ p.tb ∧ w0.heap.size ≤ p.rb
  low : w0.heap.size ≤ wb
  below : Below w0.heap.size w0 W
  env : Env W
  g : 6 ≤ w0.heap.size

theorem LawW.lt {w0 : World} {wb : Nat} {v : Value} {ps : List Pr} {W : World} (h : LawW w0 wb v ps W) : wb < W.heap.size := (Array.getElem?_eq_some_iff.1 h.at_).1

theorem LawW.step {w0 : World} {wb : Nat} {v : Value} {ps : List Pr} {W W' : World} (h : LawW w0 wb v ps W) (hb : Below W.heap.size W W') : LawW w0 wb v ps W' :=
  ⟨(hb.block wb h.lt).trans h.at_, own_below h.row hb, fun p hp => (h.each p hp).below hb, h.apart, h.lows, h.low, h.below.trans (hb.mono h.below.size), h.env.below hb (Nat.le_trans h.g h.below.size), h.g⟩

theorem LawW.rowKind {w0 : World} {wb : Nat} {v : Value} {ps : List Pr} {W : World} (h : LawW w0 wb v ps W) {x : Nat} {t : TypeId} (hx : kindAt W x t) (ht : t ≠ 100) : v.ownBlock = none ∨ v.ownBlock ≠ some x := by
  rcases h.row.2 with ⟨e, _⟩ | ⟨g, cap, cur, e, _, hg, _⟩
  · rw [e]; exact .inl rfl
  · right
    rw [e]
    simp only [Value.ownBlock]
    intro e2
    cases e2
    exact kindAt.ne ⟨_, _, hg⟩ hx (fun e3 => ht e3.symm) rfl

/-- A call wrote into one block of the pair at place i: it is another pair there, the others are as they were. -/
theorem LawW.turn {w0 : World} {wb : Nat} {v : Value} {ps : List Pr} {W W' : World} (h : LawW w0 wb v ps W) {i : Nat} (hi : i < ps.length) {x : Nat} {t : TypeId} (hg : W.grownBy W' (some x)) (hx : kindAt W x t)
    (ht : t = 73 ∧ x = ps[i].sb ∨ t = 88 ∧ x = ps[i].tb ∨ t = 106 ∧ x = ps[i].rb)
    (q : Pr) (hq : PairAt W' q) (e1 : q.sb = ps[i].sb) (e3 : q.rb = ps[i].rb) (e2 : q.tb = ps[i].tb ∨ W.heap.size ≤ q.tb) : LawW w0 wb v (ps.set i q) W' := by
  have hlow : w0.heap.size ≤ x := by
    have := h.lows _ (List.getElem_mem hi)
    rcases ht with ⟨_, rfl⟩ | ⟨_, rfl⟩ | ⟨_, rfl⟩
    · exact this.1
    · exact this.2.1
    · exact this.2.2
  have hwb : wb ≠ x := kindAt.ne ⟨_, _, h.at_⟩ hx (by rcases ht with ⟨rfl, _⟩ | ⟨rfl, _⟩ | ⟨rfl, _⟩ <;> decide)
  have htb : ∀ p ∈ ps, p.tb < W.heap.size := fun p hp => (h.each p hp).sl.table.lt
  have hfar : ∀ j (hj : j < ps.length), j ≠ i → x ≠ ps[j].sb ∧ x ≠ ps[j].tb ∧ x ≠ ps[j].rb := by
    intro j hj hji
    obtain ⟨k1, k2, k3⟩ := (h.each _ (List.getElem_mem hj)).kinds
    have hap : Apart ps[i] ps[j] ∨ Apart ps[j] ps[i] := by
      rcases Nat.lt_or_gt_of_ne hji with hl | hl
      · exact .inr (List.pairwise_iff_getElem.1 h.apart j i hj hi hl)
      · exact .inl (List.pairwise_iff_getElem.1 h.apart i j hi hj hl)
    have ha : ps[i].sb ≠ ps[j].sb ∧ ps[i].tb ≠ ps[j].tb ∧ ps[i].rb ≠ ps[j].rb := by
      rcases hap with ⟨a, b, c⟩ | ⟨a, b, c⟩
      · exact ⟨a, b, c⟩
      · exact ⟨a.symm, b.symm, c.symm⟩
    rcases ht with ⟨rfl, rfl⟩ | ⟨rfl, rfl⟩ | ⟨rfl, rfl⟩
    · exact ⟨ha.1, kindAt.ne hx k2 (by decide), kindAt.ne hx k3 (by decide)⟩
    · exact ⟨kindAt.ne hx k1 (by decide), ha.2.1, kindAt.ne hx k3 (by decide)⟩
    · exact ⟨kindAt.ne hx k1 (by decide), kindAt.ne hx k2 (by decide), ha.2.2⟩
  have htS : t ≠ 137 := by rcases ht with ⟨rfl, _⟩ | ⟨rfl, _⟩ | ⟨rfl, _⟩ <;> decide
  have htP : t ≠ 100 := by rcases ht with ⟨rfl, _⟩ | ⟨rfl, _⟩ | ⟨rfl, _⟩ <;> decide
  have hall : pairAll (ps.set i q) = pairAll ps := by
    unfold pairAll
    rw [List.flatMap_def, List.flatMap_def]
    congr 1
    apply List.ext_getElem?
    intro j
    simp only [List.getElem?_map]
    by_cases hj : j = i
    · subst hj
      rw [List.getElem?_set_self hi, List.getElem?_eq_getElem hi]
      simp [pairC, e1, e3]
    · rw [List.getElem?_set_ne (fun e => hj e.symm)]
  refine ⟨(hg.block wb h.lt (by simpa using hwb)).trans h.at_, ?_, ?_, ?_, ?_, h.low, h.below.grown hg h.below.size (fun k hk => by cases hk; exact hlow), ?_, h.g⟩
  · rw [hall, List.length_set]
    exact h.row.kept hg (h.rowKind hx htP)
  · intro p hp
    obtain ⟨j, hj, rfl⟩ := List.getElem_of_mem hp
    rw [List.length_set] at hj
    by_cases hji : j = i
    · subst hji; rw [List.getElem_set_self]; exact hq
    · rw [List.getElem_set_ne (fun e => hji e.symm)]
      obtain ⟨f1, f2, f3⟩ := hfar j hj hji
      exact (h.each _ (List.getElem_mem hj)).grown hg hx htS f1 f2 f3
  · rw [List.pairwise_iff_getElem]
    intro a b ha hb hab
    rw [List.length_set] at ha hb
    have h0 := List.pairwise_iff_getElem.1 h.apart a b ha hb hab
    have hta := htb _ (List.getElem_mem ha)
    have htb2 := htb _ (List.getElem_mem hb)
    by_cases ea : a = i
    · subst ea
      rw [List.getElem_set_self, List.getElem_set_ne (by omega)]
      exact ⟨by rw [e1]; exact h0.1, by rcases e2 with e2 | e2; · rw [e2]; exact h0.2.1
                                        · omega, by rw [e3]; exact h0.2.2⟩
    · by_cases eb : b = i
      · subst eb
        rw [List.getElem_set_self, List.getElem_set_ne (by omega)]
        exact ⟨by rw [e1]; exact h0.1, by rcases e2 with e2 | e2; · rw [e2]; exact h0.2.1
                                          · omega, by rw [e3]; exact h0.2.2⟩
      · rw [List.getElem_set_ne (fun e => ea e.symm), List.getElem_set_ne (fun e => eb e.symm)]
        exact h0
  · intro p hp
    obtain ⟨j, hj, rfl⟩ := List.getElem_of_mem hp
    rw [List.length_set] at hj
    by_cases hji : j = i
    · subst hji
      rw [List.getElem_set_self]
      have := h.lows _ (List.getElem_mem hi)
      refine ⟨by rw [e1]; exact this.1, ?_, by rw [e3]; exact this.2.2⟩
      rcases e2 with e2 | e2
      · rw [e2]; exact this.2.1
      · exact Nat.le_trans h.below.size e2
    · rw [List.getElem_set_ne (fun e => hji e.symm)]
      exact h.lows _ (List.getElem_mem hj)
  · exact env_grown h.env hg (Nat.le_trans h.g hlow)

end Go.Proofs.YtapbajcmnngamaaGreatDoor

namespace Go.Proofs.YtapbajcmnngamaaGreatDoor
open Go.RowKit Go.Maps Go.Sort

theorem LawW.cells {w0 : World} {wb : Nat} {v : Value} {ps : List Pr} {W : World} (h : LawW w0 wb v ps W) : W.cell? ⟨wb, 0, none⟩ = some v ∧ W.cell? ⟨wb, 1, none⟩ = some (.slice none 0 0) ∧ W.cell? ⟨wb, 2, none⟩ = some (.bool false) ∧ W.frozen? ⟨wb, 0, none⟩ = false := by
  refine ⟨?_, ?_, ?_, ?_⟩ <;> simp [World.cell?, World.frozen?, h.at_]

theorem looks_any (w0 : World) (wb : Nat) (v : Value) (ps : List Pr) (W : World) (h : LawW w0 wb v ps W) :
    Calls Tryz.prog 21 #[.pointer (some ⟨wb, 0, none⟩)] W fun e w' => e = .returned (.bool true) ∧ w' = W := by
  obtain ⟨_, c1, c2, _⟩ := h.cells
  clear h
  go_enter Tryz.func21, Tryz.ntmps21
  go_wp2_with fail
  go_loopw [3] (fun t wr => wr = W ∧ t = .int .i64 0) (fun _ _ => 1)
  case atStart => exact ⟨rfl, rfl⟩
  case round =>
    obtain ⟨rfl, rfl⟩ := hrel
    go_wp2
    go_ret
    exact ⟨rfl, rfl⟩

theorem info_pair : (Tryz.prog.info? 100).map (fun i => (i.zero, i.size, i.bytes)) = some (some (.agg #[.pointer none, .pointer none]), 2, 16) := by kernel_rfl

theorem LawW.shape {w0 : World} {wb : Nat} {v : Value} {ps : List Pr} {W : World} (h : LawW w0 wb v ps W) : ∃ a c, v = .slice a ps.length c := by
  rcases own_shape h.row with ⟨h1, h2⟩ | ⟨g, cap, h1, _⟩
  · exact ⟨_, _, by rw [h1, h2]⟩
  · exact ⟨_, _, h1⟩

theorem own_slice {w : World} {B e size n : Nat} {v : Value} {xs : List Value} (h : w.ownsRow B e size v n xs) : ∃ a c, v = .slice a n c := by
  rcases own_shape h with ⟨h1, h2⟩ | ⟨g, cap, h1, _⟩
  · exact ⟨_, _, by rw [h1, h2]⟩
  · exact ⟨_, _, h1⟩

theorem LawW.rowed {w0 : World} {wb : Nat} {v : Value} {ps : List Pr} {W W1 : World} (h : LawW w0 wb v ps W) (hg : W.grownBy W1 v.ownBlock) : W1.cell? ⟨wb, 0, none⟩ = some v ∧ W1.frozen? ⟨wb, 0, none⟩ = false := by
  have : W1.heap[wb]? = some (.cells #[v, .slice none 0 0, .bool false] 57 (0, 0)) := by
    refine (hg.block wb h.lt ?_).trans h.at_
    intro e
    rcases h.rowKind ⟨_, _, h.at_⟩ (by decide) with h1 | h1
    · rw [h1] at e; cases e
    · exact h1 e.symm
  exact ⟨by simp [World.cell?, this], by simp [World.frozen?, this]⟩

/-- A pair more. -/
theorem LawW.more {w0 : World} {wb : Nat} {v v' : Value} {ps : List Pr} {W W1 : World} (h : LawW w0 wb v ps W) (q : Pr) (hq : PairAt W q) (hn : ∀ p ∈ ps, Apart p q) (hl : w0.heap.size ≤ q.sb ∧ w0.heap.size ≤ q.tb ∧ w0.heap.size ≤ q.rb)
    (hg : W.grownBy W1 v.ownBlock) (hrow : W1.ownsRow w0.heap.size 100 2 v' (ps.length + 1) (pairAll ps ++ pairC q)) : LawW w0 wb v' (ps ++ [q]) (W1.setCell ⟨wb, 0, none⟩ v') := by
  have key : ∀ x t, kindAt W x t → t ≠ 100 → some x ≠ v.ownBlock := by
    intro x t hx ht e
    rcases h.rowKind hx ht with h1 | h1
    · rw [h1] at e; cases e
    · exact h1 e.symm
  have hlt := h.lt
  have hwb1 : W1.heap[wb]? = some (.cells #[v, .slice none 0 0, .bool false] 57 (0, 0)) := (hg.block wb hlt (key _ _ ⟨_, _, h.at_⟩ (by decide))).trans h.at_
  have hb1 : Below w0.heap.size w0 W1 := h.below.grown hg h.below.size (own_base h.row)
  have each1 : ∀ p, PairAt W p → PairAt W1 p := by
    intro p hp
    obtain ⟨k1, k2, k3⟩ := hp.kinds
    refine ⟨hp.sl.blocks hg (key _ _ k1 (by decide)) (key _ _ k2 (by decide)) ?_, ⟨(hg.block p.rb hp.ref.lt (key _ _ k3 (by decide))).trans hp.ref.at_, hp.ref.own.kept hg ?_, hp.ref.ok, hp.ref.dflt, hp.ref.low⟩⟩
    · intro e
      rcases h.row.2 with ⟨e1, _⟩ | ⟨g, cap, cur, e1, _, hgg, _⟩
      · rw [e1] at e; cases e
      · rw [e1] at e
        simp only [Value.ownBlock] at e
        cases e
        exact hp.mapNe ⟨_, _, hgg⟩ rfl
    · exact own_apart hp.ref.own h.row (by decide)
  have hx : kindAt W1 wb 57 := ⟨_, _, hwb1⟩
  have hall : ∀ p ∈ ps ++ [q], PairAt W1 p := by
    intro p hp
    rcases List.mem_append.1 hp with hp | hp
    · exact each1 p (h.each p hp)
    · simp at hp; subst hp; exact each1 p hq
  refine ⟨heap_setCell_at hwb1 0 _, ?_, ?_, ?_, ?_, h.low, hb1.setCell h.low _, ?_, h.g⟩
  · have e : pairAll (ps ++ [q]) = pairAll ps ++ pairC q := by simp [pairAll]
    rw [e, List.length_append]
    refine hrow.kept (grown_set W1 wb 0 _) ?_
    rcases hrow.2 with ⟨e1, _⟩ | ⟨g, cap, cur, e1, _, hgg, _⟩
    · rw [e1]; exact .inl rfl
    · right
      rw [e1]
      simp only [Value.ownBlock]
      intro e2
      cases e2
      exact kindAt.ne ⟨_, _, hgg⟩ hx (by decide) rfl
  · intro p hp
    have hp1 := hall p hp
    obtain ⟨k1, k2, k3⟩ := hp1.kinds
    exact hp1.grown (grown_set W1 wb 0 _) hx (by decide) (kindAt.ne hx k1 (by decide)) (kindAt.ne hx k2 (by decide)) (kindAt.ne hx k3 (by decide))
  · rw [List.pairwise_append]
    exact ⟨h.apart, List.pairwise_singleton _ _, fun a ha b hb => by simp at hb; subst hb; exact hn a ha⟩
  · intro p hp
    rcases List.mem_append.1 hp with hp | hp
    · exact h.lows p hp
    · simp at hp; subst hp; exact hl
  · have hE1 : Env W1 := h.env.below (B := 6) ⟨hg.os, hg.tape, hg.output, hg.size, fun k hk => hg.block k (by have := h.env.size; omega) (fun e => by have := own_base h.row k e.symm; have := h.g; omega)⟩ (Nat.le_refl _)
    exact env_grown hE1 (grown_set W1 wb 0 v') (Nat.le_trans h.g h.low)

set_option maxRecDepth 100000 in
set_option maxHeartbeats 4000000 in
theorem begin_any (w0 : World) (wb : Nat) (v : Value) (ps : List Pr) (t : List UInt8) (W : World) (h : LawW w0 wb v ps W) (hn : ps.length ≤ 8796093022207) (hag : Agree ps) :
    Calls Tryz.prog 19 #[.pointer (some ⟨wb, 0, none⟩), .string ⟨t.toArray⟩] W fun e w' => e = .returned (.bool true) ∧ ∃ v' ps', LawW w0 wb v' ps' w' ∧ Agree ps' ∧ ps'.length = ps.length + if (readS t).1.isSome = true then 1 else 0 := by
  obtain ⟨i0, hi, hz0, hz1, hz2⟩ := info_parts info_pair
  have hnew := hide (new_any t W h.env)
  have HH := hide h
  obtain ⟨c0, _, _, f0⟩ := h.cells
  have hlt := h.lt
  obtain ⟨av, cv, rfl⟩ := h.shape
  clear h
  cases hr : (readS t).1 with
  | none =>
    have HR := hide hr
    have hn2 := hide (fun W1 (hb : Below W.heap.size W W1) => refNew_any t W1 (((unhide HH).step hb).env.size))
    have hres : (if (none : Option (List (Sl.Subj × Sl.Lim))).isSome = true then 1 else 0) = 0 := rfl
    clear hr
    go_enter Tryz.func19, Tryz.ntmps19
    go_wp2_with fail
    refine (unhide hnew).mono ?_
    rintro e w1 ⟨hb1, hm1⟩
    rw [unhide HR] at hm1
    obtain ⟨rfl, hne⟩ := hm1
    go_wp2_with fail
    refine (unhide hn2 w1 hb1).mono ?_
    rintro e w2 ⟨hb2, hm2⟩
    rcases hm2 with ⟨_, rfl⟩ | ⟨l, rb, v, h1, _⟩
    · clear hne
      go_wp2
      go_ret
      exact ⟨rfl, _, ps, ((unhide HH).step hb1).step hb2, hag, rfl⟩
    · rw [unhide HR] at h1; cases h1
  | some l =>
    have HR := hide hr
    have hn2 := hide (fun W1 (hb : Below W.heap.size W W1) => refNew_any t W1 (((unhide HH).step hb).env.size))
    clear hr
    go_enter Tryz.func19, Tryz.ntmps19
    go_wp2_with fail
    refine (unhide hnew).mono ?_
    rintro e w1 ⟨hb1, hm1⟩
    rw [unhide HR] at hm1
    obtain ⟨sb, tb, mb, n, rfl, hsl, l1, l2, l3⟩ := hm1
    have HSL := hide hsl
    clear hsl
    go_wp2_with fail
    refine (unhide hn2 w1 hb1).mono ?_
    rintro e w2 ⟨hb2, hm2⟩
    rcases hm2 with ⟨h1, _⟩ | ⟨l', rb, vr, h1, rfl, href, l4, _⟩
    · rw [unhide HR] at h1; cases h1
    · have hll : l' = l := by rw [unhide HR] at h1; cases h1; rfl
      subst hll
      have HL2 := hide (((unhide HH).step hb1).step hb2)
      have HPQ := hide (show PairAt w2 ⟨sb, tb, mb, n, rb, vr, l', l'⟩ from ⟨(unhide HSL).below hb2, href⟩)
      have hs1 := hb1.size
      have hs2 := hb2.size
      obtain ⟨c0', _, _, f0'⟩ := (unhide HL2).cells
      have hlt2 : wb < w2.heap.size := by omega
      have hw0 := hide (unhide HH).below.size
      clear h1 href c0 f0
      go_wp2_with (at_builtin; refine wpList_append_own _ rfl (.tmp 44) (.tmp 48) 54 rfl w0.heap.size 100 i0 (.agg #[.pointer none, .pointer none]) 2 16 Tryz.underlying54 hi hz0 hz1 hz2 rfl (by decide) _ _ _ rfl ((unhide HL2).row.alloc _) ⟨w2.heap.size, 0, none⟩ 1 1 (pairC ⟨sb, tb, mb, n, rb, vr, l', l'⟩) rfl rfl (cell_new_at _ _ _ _ rfl) (by intro u hu; simp [pairC] at hu; rcases hu with rfl | rfl <;> rfl) (by unfold maxLen; omega) (by omega) (by have := unhide hw0; simp; omega) ?_; intro v3 w3 hown3 hgrow3 hnil3; obtain ⟨a3, c3, hv3⟩ := own_slice hown3; subst hv3; obtain ⟨x0, x1⟩ := ((unhide HL2).step (Below.alloc1 _ _)).rowed hgrow3; have HO3 := hide hown3; have HG3 := hide hgrow3; clear hown3 hgrow3 hnil3 c0' f0')
      go_ret
      refine ⟨rfl, .slice a3 (ps.length + 1) c3, ps ++ [⟨sb, tb, mb, n, rb, vr, l', l'⟩], ?_, ?_, ?_⟩
      · refine ((unhide HL2).step (Below.alloc1 _ _)).more ⟨sb, tb, mb, n, rb, vr, l', l'⟩ ((unhide HPQ).below (Below.alloc1 _ _)) ?_ ?_ (unhide HG3) (unhide HO3)
        · intro p hp
          have hp1 := (unhide HH).each p hp
          have h1 := hp1.sl.at_.cell.2.2
          have h2 := hp1.sl.table.lt
          have h3 := hp1.ref.lt
          exact ⟨by show p.sb ≠ sb; omega, by show p.tb ≠ tb; omega, by show p.rb ≠ rb; omega⟩
        · have := unhide hw0
          exact ⟨by show _ ≤ sb; omega, by show _ ≤ tb; omega, by show _ ≤ rb; omega⟩
      · intro p hp
        rcases List.mem_append.1 hp with hp | hp
        · exact hag p hp
        · simp at hp; subst hp; rfl
      · simp

end Go.Proofs.YtapbajcmnngamaaGreatDoor

namespace Go.Proofs.YtapbajcmnngamaaGreatDoor
open Go.RowKit Go.Maps Go.Sort

abbrev opV (k m a : Int) (s t u : ByteArray) (lv : Value) : Value := .agg #[.int .i64 k, .int .i64 m, .int .i64 a, .string s, .string t, .string u, lv]

theorem pick_place (m : Int) (N : Nat) (hN : 0 < N) : ∃ (r : Int) (i : Nat), m.tmod N = r ∧ (r + N).tmod N = i ∧ i < N ∧ -(N : Int) < r ∧ r < N := by
  have h1 := Int.tmod_lt_of_pos m (b := (N : Int)) (by omega)
  have h2 : -(N : Int) < m.tmod N := by
    by_cases h : 0 ≤ m
    · have := Int.tmod_nonneg (N : Int) h; omega
    · have := Int.tmod_lt_of_pos (-m) (b := (N : Int)) (by omega)
      rw [Int.neg_tmod] at this
      omega
  obtain ⟨i, hi, e⟩ := tmod_pick (m.tmod N + N) N (by omega) hN
  exact ⟨_, i, rfl, e, hi, h2, h1⟩

theorem LawW.pick {w0 : World} {wb : Nat} {v : Value} {ps : List Pr} {W : World} (h : LawW w0 wb v ps W) (hp : 0 < ps.length) (m : Int) : ∃ (g cap N : Nat) (r : Int) (i : Nat) (P : Pr), v = .slice (some ⟨g, 0, none⟩) N cap ∧ g < W.heap.size ∧ N = ps.length ∧ 0 < N ∧ m.tmod N = r ∧ (r + N).tmod N = i ∧ i < N ∧ -(N : Int) < r ∧ r < N ∧
    W.cell? ⟨g, i * 2, none⟩ = some (.pointer (some ⟨P.sb, 0, none⟩)) ∧ W.cell? ⟨g, i * 2 + 1, none⟩ = some (.pointer (some ⟨P.rb, 0, none⟩)) ∧ ps[i]? = some P ∧ PairAt W P ∧ P ∈ ps := by
  obtain ⟨g, cap, hv, hgc, hgz, hgcell⟩ : ∃ g cap, v = .slice (some ⟨g, 0, none⟩) ps.length cap ∧ ps.length ≤ cap ∧ g < W.heap.size ∧ ∀ j u, (pairAll ps)[j]? = some u → W.cell? ⟨g, j, none⟩ = some u := by
    rcases own_shape h.row with ⟨_, h⟩ | h
    · omega
    · exact h
  obtain ⟨r, i, hr1, hr2, hi, hb1, hb2⟩ := pick_place m ps.length hp
  exact ⟨g, cap, ps.length, r, i, ps[i], hv, hgz, rfl, hp, hr1, hr2, hi, hb1, hb2, hgcell (i * 2) _ (pairAll_at ps i hi 0 (by omega)), hgcell (i * 2 + 1) _ (pairAll_at ps i hi 1 (by omega)), List.getElem?_eq_getElem hi, h.each _ (List.getElem_mem hi), List.getElem_mem hi⟩

theorem LawW.turned {w0 : World} {wb : Nat} {v : Value} {ps : List Pr} {W W' : World} (h : LawW w0 wb v ps W) {i : Nat} {P : Pr} (hi : ps[i]? = some P) {x : Nat} {t : TypeId} (hg : W.grownBy W' (some x)) (hx : kindAt W x t)
    (ht : t = 73 ∧ x = P.sb ∨ t = 88 ∧ x = P.tb ∨ t = 106 ∧ x = P.rb)
    (q : Pr) (hq : PairAt W' q) (e1 : q.sb = P.sb) (e3 : q.rb = P.rb) (e2 : q.tb = P.tb ∨ W.heap.size ≤ q.tb) : LawW w0 wb v (ps.set i q) W' := by
  obtain ⟨hlt, rfl⟩ := List.getElem?_eq_some_iff.1 hi
  exact h.turn hlt hg hx ht q hq e1 e3 e2

theorem agree_set {ps : List Pr} (h : Agree ps) (i : Nat) (q : Pr) (hq : q.l = q.lr) : Agree (ps.set i q) := by
  intro p hp
  rcases List.mem_or_eq_of_mem_set hp with hp | rfl
  · exact h p hp
  · exact hq

theorem set_at {ps : List Pr} {i : Nat} {P : Pr} (h : ps[i]? = some P) (q : Pr) : (ps.set i q)[i]? = some q := by
  obtain ⟨hi, _⟩ := List.getElem?_eq_some_iff.1 h
  exact List.getElem?_set_self hi

theorem set_mem {ps : List Pr} {i : Nat} {P : Pr} (h : ps[i]? = some P) (q : Pr) : q ∈ ps.set i q := List.mem_of_getElem? (set_at h q)

set_option maxRecDepth 100000 in
set_option maxHeartbeats 8000000 in
theorem step_none (w0 : World) (wb : Nat) (v : Value) (ps : List Pr) (k m a : Int) (s t u : List UInt8) (lp : Option Addr) (ln lc : Nat) (W : World) (h : LawW w0 wb v ps W) (hn : ps.length ≤ 8796093022207) (hag : Agree ps) (hp : 0 < ps.length) (hk : k < 1) :
    Calls Tryz.prog 20 #[.pointer (some ⟨wb, 0, none⟩), opV k m a ⟨s.toArray⟩ ⟨t.toArray⟩ ⟨u.toArray⟩ (.slice lp ln lc)] W fun e w' => e = .returned (.bool true) ∧ ∃ v' ps', LawW w0 wb v' ps' w' ∧ Agree ps' ∧ ps'.length = ps.length := by
  obtain ⟨c0, _, _, f0⟩ := h.cells
  have hlt := h.lt
  obtain ⟨g, cap, N, r, i, P, hv, hgz, hN, hN0, hr1, hr2, hiN, hb1, hb2, p0, p1, hP, hPA, hPm⟩ := h.pick hp m
  subst hv
  have HH := hide h; have HP := hide hP; have HPA := hide hPA
  have HPL : Hid (P.l = P.lr) := hide (hag P hPm)
  have HAG := hide hag
  have hN2 : N ≤ 8796093022207 := by omega
  have hii : (i : Int) < (N : Int) := by omega
  have hNz : ¬ ((N : Int) = 0) := by omega
  have hwr : IntKind.i64.wrap (r + (N : Int)) = r + N := IntWalk.i64_in _ ⟨by omega, by omega⟩
  have hNy : ¬ (N = 0) := by omega
  obtain ⟨S, hS⟩ : ∃ S : ByteArray, S = ⟨s.toArray⟩ := ⟨_, rfl⟩
  obtain ⟨T, hT⟩ : ∃ S : ByteArray, S = ⟨t.toArray⟩ := ⟨_, rfl⟩
  obtain ⟨U, hU⟩ : ∃ S : ByteArray, S = ⟨u.toArray⟩ := ⟨_, rfl⟩
  rw [← hS, ← hT, ← hU]
  have HS := hide hS; have HT := hide hT; have HU := hide hU
  clear h hN hP hPA hp hn hPm hag hS hT hU
  go_enter Tryz.func20, Tryz.ntmps20
  go_wp2_with fail
  go_region_held3 (fun w' => w'.cell? ⟨wb, 0, none⟩ = some (.slice (some ⟨g, 0, none⟩) N cap) ∧ w'.cell? ⟨W.heap.size, 1, none⟩ = some (.int .i64 m) ∧ w'.cell? ⟨g, i * 2, none⟩ = some (.pointer (some ⟨P.sb, 0, none⟩)) ∧ w'.cell? ⟨g, i * 2 + 1, none⟩ = some (.pointer (some ⟨P.rb, 0, none⟩))) (go_keep) (fail)
  have HL2 := hide ((unhide HH).step (below_two W (.cells #[.int .i64 k, .int .i64 m, .int .i64 a, .string S, .string T, .string U, .slice lp ln lc] 62) (.cells #[.pointer (some ⟨P.sb, 0, none⟩), .pointer (some ⟨P.rb, 0, none⟩)] 100)).drew)
  have HP2 := hide ((unhide HPA).below (below_two W (.cells #[.int .i64 k, .int .i64 m, .int .i64 a, .string S, .string T, .string U, .slice lp ln lc] 62) (.cells #[.pointer (some ⟨P.sb, 0, none⟩), .pointer (some ⟨P.rb, 0, none⟩)] 100)).drew)
  clear c0 f0 p0 p1 hr1 hr2 hwr hii
  clear HP2 HPA
  go_wp2
  go_ret
  exact ⟨rfl, _, ps, unhide HL2, unhide HAG, rfl⟩

/-- The call's own two blocks, whatever the calls did. -/
structure Own2 (W : World) (k m a : Int) (S T U : ByteArray) (lv : Value) (sb rb : Nat) (X : World) : Prop where
  o0 : X.cell? ⟨W.heap.size, 0, none⟩ = some (.int .i64 k)
  o3 : X.cell? ⟨W.heap.size, 3, none⟩ = some (.string S)
  o4 : X.cell? ⟨W.heap.size, 4, none⟩ = some (.string T)
  o5 : X.cell? ⟨W.heap.size, 5, none⟩ = some (.string U)
  p0 : X.cell? ⟨W.heap.size + 1, 0, none⟩ = some (.pointer (some ⟨sb, 0, none⟩))
  p1 : X.cell? ⟨W.heap.size + 1, 1, none⟩ = some (.pointer (some ⟨rb, 0, none⟩))

theorem Own2.of {W X : World} {k m a : Int} {S T U : ByteArray} {lv : Value} {sb rb : Nat} (hg : ∀ b, b = W.heap.size ∨ b = W.heap.size + 1 → X.heap[b]? = (((W.alloc (.cells #[.int .i64 k, .int .i64 m, .int .i64 a, .string S, .string T, .string U, lv] 62)).alloc (.cells #[.pointer (some ⟨sb, 0, none⟩), .pointer (some ⟨rb, 0, none⟩)] 100)).drew).heap[b]?) : Own2 W k m a S T U lv sb rb X := by
  have h0 := hg W.heap.size (.inl rfl)
  have h1 := hg (W.heap.size + 1) (.inr rfl)
  have e0 : (((W.alloc (.cells #[.int .i64 k, .int .i64 m, .int .i64 a, .string S, .string T, .string U, lv] 62)).alloc (.cells #[.pointer (some ⟨sb, 0, none⟩), .pointer (some ⟨rb, 0, none⟩)] 100)).drew).heap[W.heap.size]? = some (.cells #[.int .i64 k, .int .i64 m, .int .i64 a, .string S, .string T, .string U, lv] 62 (0, 0)) := by
    show ((W.alloc _).alloc _).heap[W.heap.size]? = _
    rw [(Below.alloc1 (W.alloc _) _).block W.heap.size (by simp)]
    exact (MapKept.heap_alloc W _).1
  have e1 : (((W.alloc (.cells #[.int .i64 k, .int .i64 m, .int .i64 a, .string S, .string T, .string U, lv] 62)).alloc (.cells #[.pointer (some ⟨sb, 0, none⟩), .pointer (some ⟨rb, 0, none⟩)] 100)).drew).heap[W.heap.size + 1]? = some (.cells #[.pointer (some ⟨sb, 0, none⟩), .pointer (some ⟨rb, 0, none⟩)] 100 (0, 0)) := by
    have := (MapKept.heap_alloc (W.alloc (.cells #[.int .i64 k, .int .i64 m, .int .i64 a, .string S, .string T, .string U, lv] 62)) (.cells #[.pointer (some ⟨sb, 0, none⟩), .pointer (some ⟨rb, 0, none⟩)] 100)).1
    rw [World.size_alloc] at this
    exact this
  rw [e0] at h0
  rw [e1] at h1
  constructor <;> simp [World.cell?, h0, h1]


end Go.Proofs.YtapbajcmnngamaaGreatDoor
