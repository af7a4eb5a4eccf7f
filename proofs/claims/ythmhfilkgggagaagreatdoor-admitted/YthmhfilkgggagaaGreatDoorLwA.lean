/-
  The law's world: pairs of the program's sluice and the document's, none of which reaches a block of another's; looks; a pair more.
  The law's world: begin; which pair a step picks; the step's own two blocks.
  The law's world: the two calls of each step: their answers agree, and so does what they leave.
  The law's world: the two calls of Admit: their answers agree, and so does what they leave.
-/
import Derived.Test.YthmhfilkgggagaaGreatDoorRfD
import Derived.Test.YthmhfilkgggagaaGreatDoorRfF
namespace Go.Proofs.YthmhfilkgggagaaGreatDoor
open Go.RowKit Go.Maps Go.Sort

structure Pr where
  s : St
  r : Rf

def Pr.foot (p : Pr) (k : Nat) : Prop := p.s.foot k ∨ p.r.foot k

structure Pr.At (p : Pr) (w : World) : Prop where
  sl : p.s.At w
  ref : p.r.At w
  apart : ∀ k, p.s.foot k → ¬ p.r.foot k

/-- Program and document hold the same. -/
structure Pr.Agree (p : Pr) : Prop where
  l : p.s.l = p.r.l
  tm : p.s.tm = p.r.tm
  lv : Agr p.s.lv p.r.bs

/-- A call on one of the two led from p to q. -/
structure WentP (p q : Pr) (w w' : World) : Prop where
  at_ : q.At w'
  only : Only p.foot w w'
  foot : ∀ k, q.foot k → p.foot k ∨ w.heap.size ≤ k
  sb : q.s.sb = p.s.sb
  rb : q.r.rb = p.r.rb

theorem Pr.At.lt {p : Pr} {w : World} (h : p.At w) {k : Nat} (hk : p.foot k) : k < w.heap.size := by
  rcases hk with hk | hk
  · exact h.sl.lt hk
  · exact h.ref.lt hk

theorem Pr.At.of_only {S : Nat → Prop} {p : Pr} {w w' : World} (h : p.At w) (ho : Only S w w') (hS : ∀ k, p.foot k → ¬ S k) : p.At w' :=
  ⟨IsSl.of_only h.sl ho (fun k hk => hS k (.inl hk)), h.ref.of_only ho (fun k hk => hS k (.inr hk)), h.apart⟩

theorem Pr.At.below {p : Pr} {w w' : World} (h : p.At w) (hb : Below w.heap.size w w') : p.At w' :=
  h.of_only (S := fun _ => False) (Only.below hb) (fun _ _ => id)

theorem WentP.left {p : Pr} {t : St} {w w' : World} (h : p.At w) (hw : Went p.s t w w') : WentP p ⟨t, p.r⟩ w w' := by
  refine ⟨⟨hw.at_, h.ref.of_only hw.only (fun k hk h2 => h.apart k h2 hk), fun k hk h2 => ?_⟩, hw.only.mono (fun k _ hk => .inl hk), fun k hk => ?_, hw.sb, rfl⟩
  · rcases hw.foot k hk with h3 | h3
    · exact h.apart k h3 h2
    · have := h.ref.lt h2; omega
  · rcases hk with hk | hk
    · rcases hw.foot k hk with h3 | h3
      · exact .inl (.inl h3)
      · exact .inr h3
    · exact .inl (.inr hk)

theorem WentP.right {p : Pr} {t : Rf} {w w' : World} (h : p.At w) (hw : WentR p.r t w w') : WentP p ⟨p.s, t⟩ w w' := by
  refine ⟨⟨IsSl.of_only h.sl hw.only (fun k hk h2 => h.apart k hk h2), hw.at_, fun k hk h2 => ?_⟩, hw.only.mono (fun k _ hk => .inr hk), fun k hk => ?_, rfl, hw.rb⟩
  · rcases hw.foot k h2 with h3 | h3
    · exact h.apart k hk h3
    · have := h.sl.lt hk; omega
  · rcases hk with hk | hk
    · exact .inl (.inl hk)
    · rcases hw.foot k hk with h3 | h3
      · exact .inl (.inr h3)
      · exact .inr h3

def Apart (p q : Pr) : Prop := ∀ k, p.foot k → ¬ q.foot k
theorem Apart.symm {p q : Pr} (h : Apart p q) : Apart q p := fun k h1 h2 => h k h2 h1

def pairC (p : Pr) : List Value := [.pointer (some ⟨p.s.sb, 0, none⟩), .pointer (some ⟨p.r.rb, 0, none⟩)]
def pairAll (ps : List Pr) : List Value := ps.flatMap pairC

theorem pairAll_at : ∀ (l : List Pr) (k : Nat) (hk : k < l.length) (j : Nat), j < 2 → (pairAll l)[k * 2 + j]? = (pairC l[k])[j]?
  | [], k, hk, _, _ => by simp at hk
  | x :: r, 0, _, j, hj => by
    show (pairC x ++ pairAll r)[0 * 2 + j]? = _
    rw [List.getElem?_append_left (by simp [pairC]; omega)]; simp
  | x :: r, k + 1, hk, j, hj => by
    show (pairC x ++ pairAll r)[(k + 1) * 2 + j]? = _
    rw [List.getElem?_append_right (by simp [pairC]; omega)]
    have e : (k + 1) * 2 + j - (pairC x).length = k * 2 + j := by simp [pairC]; omega
    rw [e, pairAll_at r k (by simpa using hk) j hj]; rfl

/-- The law's world. -/
structure LawW (w0 : World) (wb : Nat) (v : Value) (ps : List Pr) (W : World) : Prop where
  at_ : W.heap[wb]? = some (.cells #[v, .slice none 0 0, .bool false] 83 (0, 0))
  row : W.ownsRow w0.heap.size 136 2 v ps.length (pairAll ps)
  each : ∀ p ∈ ps, p.At W
  apart : ps.Pairwise Apart
  off : ∀ p ∈ ps, ∀ k, p.foot k → w0.heap.size ≤ k ∧ k ≠ wb ∧ v.ownBlock ≠ some k
  low : w0.heap.size ≤ wb
  below : Below w0.heap.size w0 W
  env : Env W
  g : 7 ≤ w0.heap.size

section
variable {w0 : World} {wb : Nat} {v : Value} {ps : List Pr} {W W' : World}

theorem LawW.lt (h : LawW w0 wb v ps W) : wb < W.heap.size := (Array.getElem?_eq_some_iff.1 h.at_).1

theorem LawW.rowNe (h : LawW w0 wb v ps W) : v.ownBlock ≠ some wb := by
  intro e
  rcases h.row.2 with ⟨e1, _⟩ | ⟨g, cap, cur, e1, _, hg, _⟩
  · rw [e1] at e; cases e
  · rw [e1] at e
    simp only [Value.ownBlock] at e
    cases e
    rw [h.at_] at hg
    cases hg

theorem LawW.step (h : LawW w0 wb v ps W) (hb : Below W.heap.size W W') : LawW w0 wb v ps W' :=
  ⟨(hb.block wb h.lt).trans h.at_, own_below h.row hb, fun p hp => (h.each p hp).below hb, h.apart, h.off, h.low, h.below.trans (hb.mono h.below.size), h.env.below hb (Nat.le_trans h.g h.below.size), h.g⟩

theorem LawW.went (h : LawW w0 wb v ps W) {i : Nat} {P Q : Pr} (hP : ps[i]? = some P) (hw : WentP P Q W W') : LawW w0 wb v (ps.set i Q) W' := by
  obtain ⟨hi, rfl⟩ := List.getElem?_eq_some_iff.1 hP
  have hm : ps[i] ∈ ps := List.getElem_mem hi
  have hall : pairAll (ps.set i Q) = pairAll ps := by
    unfold pairAll
    rw [List.flatMap_def, List.flatMap_def]
    congr 1
    apply List.ext_getElem?
    intro j
    simp only [List.getElem?_map]
    by_cases hj : j = i
    · subst hj
      rw [List.getElem?_set_self hi, List.getElem?_eq_getElem hi]
      simp [pairC, hw.sb, hw.rb]
    · rw [List.getElem?_set_ne (fun e => hj e.symm)]
  have hap : ∀ j (hj : j < ps.length), j ≠ i → Apart ps[j] ps[i] := by
    intro j hj hji
    rcases Nat.lt_or_gt_of_ne hji with hl | hl
    · exact List.pairwise_iff_getElem.1 h.apart j i hj hi hl
    · exact (List.pairwise_iff_getElem.1 h.apart i j hi hj hl).symm
  have hnew : ∀ j (hj : j < ps.length), j ≠ i → Apart ps[j] Q := by
    intro j hj hji k h1 h2
    rcases hw.foot k h2 with h3 | h3
    · exact hap j hj hji k h1 h3
    · have := (h.each _ (List.getElem_mem hj)).lt h1; omega
  refine ⟨(hw.only.block wb h.lt (fun hk => (h.off _ hm wb hk).2.1 rfl)).trans h.at_, ?_, ?_, ?_, ?_, h.low, hw.only.old h.below (fun k hk => (h.off _ hm k hk).1), hw.only.env h.env (fun k hk => Nat.le_trans h.g (h.off _ hm k hk).1), h.g⟩
  · rw [hall, List.length_set]
    exact row_of h.row (fun g hg => hw.only.block g (row_lt h.row hg) (fun hk => (h.off _ hm g hk).2.2 hg))
  · intro p hp
    obtain ⟨j, hj, rfl⟩ := List.getElem_of_mem hp
    rw [List.length_set] at hj
    by_cases hji : j = i
    · subst hji; rw [List.getElem_set_self]; exact hw.at_
    · rw [List.getElem_set_ne (fun e => hji e.symm)]
      exact (h.each _ (List.getElem_mem hj)).of_only hw.only (fun k hk => hap j hj hji k hk)
  · rw [List.pairwise_iff_getElem]
    intro a b ha hb hab
    have ha' : a < ps.length := by simpa using ha
    have hb' : b < ps.length := by simpa using hb
    by_cases ea : a = i
    · subst ea
      rw [List.getElem_set_self, List.getElem_set_ne (by omega)]
      exact (hnew b hb' (by omega)).symm
    · by_cases eb : b = i
      · subst eb
        rw [List.getElem_set_self, List.getElem_set_ne (by omega)]
        exact hnew a ha' (by omega)
      · rw [List.getElem_set_ne (fun e => ea e.symm), List.getElem_set_ne (fun e => eb e.symm)]
        exact List.pairwise_iff_getElem.1 h.apart a b ha' hb' hab
  · intro p hp k hk
    obtain ⟨j, hj, rfl⟩ := List.getElem_of_mem hp
    rw [List.length_set] at hj
    by_cases hji : j = i
    · subst hji
      rw [List.getElem_set_self] at hk
      rcases hw.foot k hk with h3 | h3
      · exact h.off _ hm k h3
      · refine ⟨Nat.le_trans h.below.size h3, fun e => ?_, fun e => ?_⟩
        · have := h.lt; omega
        · have := row_lt h.row e; omega
    · rw [List.getElem_set_ne (fun e => hji e.symm)] at hk
      exact h.off _ (List.getElem_mem hj) k hk

theorem LawW.cells (h : LawW w0 wb v ps W) : W.cell? ⟨wb, 0, none⟩ = some v ∧ W.cell? ⟨wb, 1, none⟩ = some (.slice none 0 0) ∧ W.cell? ⟨wb, 2, none⟩ = some (.bool false) ∧ W.frozen? ⟨wb, 0, none⟩ = false := by
  refine ⟨?_, ?_, ?_, ?_⟩ <;> simp [World.cell?, World.frozen?, h.at_]

theorem LawW.shape (h : LawW w0 wb v ps W) : ∃ a c, v = .slice a ps.length c := by
  rcases own_shape h.row with ⟨h1, h2⟩ | ⟨g, cap, h1, _⟩
  · exact ⟨_, _, by rw [h1, h2]⟩
  · exact ⟨_, _, h1⟩

theorem LawW.rowed {W1 : World} (h : LawW w0 wb v ps W) (hg : W.grownBy W1 v.ownBlock) : W1.cell? ⟨wb, 0, none⟩ = some v ∧ W1.frozen? ⟨wb, 0, none⟩ = false := by
  have : W1.heap[wb]? = some (.cells #[v, .slice none 0 0, .bool false] 83 (0, 0)) :=
    (hg.block wb h.lt (fun e => h.rowNe e.symm)).trans h.at_
  exact ⟨by simp [World.cell?, this], by simp [World.frozen?, this]⟩

/-- A pair more. -/
theorem LawW.more {v' : Value} {W1 : World} (h : LawW w0 wb v ps W) (q : Pr) (hq : q.At W) (hn : ∀ p ∈ ps, Apart p q) (hl : ∀ k, q.foot k → w0.heap.size ≤ k ∧ k ≠ wb ∧ v.ownBlock ≠ some k)
    (hg : W.grownBy W1 v.ownBlock) (hv : v'.ownBlock = v.ownBlock ∨ ∀ g, v'.ownBlock = some g → W.heap.size ≤ g) (hrow : W1.ownsRow w0.heap.size 136 2 v' (ps.length + 1) (pairAll ps ++ pairC q)) : LawW w0 wb v' (ps ++ [q]) (W1.setCell ⟨wb, 0, none⟩ v') := by
  have ho : Only (fun k => v.ownBlock = some k ∨ k = wb) W (W1.setCell ⟨wb, 0, none⟩ v') := by
    refine (Only.grown hg (fun k e _ => .inl e)).trans (T := fun k => k = wb) (Only.grown (grown_set W1 wb 0 v') (fun k e _ => ?_)) (fun k _ hk => .inr hk)
    cases e
    rfl
  have hlow : ∀ k, (v.ownBlock = some k ∨ k = wb) → w0.heap.size ≤ k := by
    intro k hk
    rcases hk with hk | rfl
    · exact own_base h.row k hk
    · exact h.low
  have hall : ∀ p ∈ ps ++ [q], p.At W ∧ ∀ k, p.foot k → w0.heap.size ≤ k ∧ k ≠ wb ∧ v.ownBlock ≠ some k := by
    intro p hp
    rcases List.mem_append.1 hp with hp | hp
    · exact ⟨h.each p hp, h.off p hp⟩
    · simp at hp; subst hp; exact ⟨hq, hl⟩
  have hwb1 : W1.heap[wb]? = some (.cells #[v, .slice none 0 0, .bool false] 83 (0, 0)) :=
    (hg.block wb h.lt (fun e => h.rowNe e.symm)).trans h.at_
  have hvb : v'.ownBlock ≠ some wb := by
    intro e
    rcases hv with h1 | h1
    · exact h.rowNe (h1 ▸ e)
    · have := h1 wb e; have := h.lt; omega
  refine ⟨heap_setCell_at hwb1 0 _, ?_, ?_, ?_, ?_, h.low, ho.old h.below hlow, ho.env h.env (fun k hk => Nat.le_trans h.g (hlow k hk)), h.g⟩
  · have e : pairAll (ps ++ [q]) = pairAll ps ++ pairC q := by simp [pairAll]
    rw [e, List.length_append]
    exact hrow.kept (grown_set W1 wb 0 _) (.inr hvb)
  · intro p hp
    obtain ⟨h1, h2⟩ := hall p hp
    refine h1.of_only ho (fun k hk h3 => ?_)
    rcases h3 with h3 | h3
    · exact (h2 k hk).2.2 h3
    · exact (h2 k hk).2.1 h3
  · rw [List.pairwise_append]
    exact ⟨h.apart, List.pairwise_singleton _ _, fun a ha b hb => by simp at hb; subst hb; exact hn a ha⟩
  · intro p hp k hk
    obtain ⟨h1, h2⟩ := hall p hp
    refine ⟨(h2 k hk).1, (h2 k hk).2.1, fun e => ?_⟩
    rcases hv with h3 | h3
    · exact (h2 k hk).2.2 (h3 ▸ e)
    · have := h3 k e; have := h1.lt hk; omega
end

/-- What holds of all pairs: they agree, and the document's holds so many buckets at most. -/
def AgreeN (ps : List Pr) (b : Nat) : Prop := ∀ p ∈ ps, p.Agree ∧ p.r.bs.length ≤ b

theorem AgreeN.mono {ps : List Pr} {b b' : Nat} (h : AgreeN ps b) (hb : b ≤ b') : AgreeN ps b' := fun p hp => ⟨(h p hp).1, Nat.le_trans (h p hp).2 hb⟩

theorem AgreeN.set {ps : List Pr} {b b' : Nat} (h : AgreeN ps b) (hb : b ≤ b') (i : Nat) (q : Pr) (hq : q.Agree ∧ q.r.bs.length ≤ b') : AgreeN (ps.set i q) b' := by
  intro p hp
  rcases List.mem_or_eq_of_mem_set hp with hp | rfl
  · exact (h.mono hb) p hp
  · exact hq

theorem looks_any (w0 : World) (wb : Nat) (v : Value) (ps : List Pr) (W : World) (h : LawW w0 wb v ps W) :
    Calls Tryz.prog 39 #[.pointer (some ⟨wb, 0, none⟩)] W fun e w' => e = .returned (.bool true) ∧ w' = W := by
  obtain ⟨_, c1, c2, _⟩ := h.cells
  clear h
  go_enter Tryz.func39, Tryz.ntmps39
  go_wp2_with fail
  go_loopw [3] (fun t wr => wr = W ∧ t = .int .i64 0) (fun _ _ => 1)
  case atStart => exact ⟨rfl, rfl⟩
  case round =>
    obtain ⟨rfl, rfl⟩ := hrel
    go_wp2
    go_ret
    exact ⟨rfl, rfl⟩

theorem info_pair : (Tryz.prog.info? 136).map (fun i => (i.zero, i.size, i.bytes)) = some (some (.agg #[.pointer none, .pointer none]), 2, 16) := by kernel_rfl

theorem own_slice {w : World} {B e size n : Nat} {v : Value} {xs : List Value} (h : w.ownsRow B e size v n xs) : ∃ a c, v = .slice a n c := by
  rcases own_shape h with ⟨h1, h2⟩ | ⟨g, cap, h1, _⟩
  · exact ⟨_, _, by rw [h1, h2]⟩
  · exact ⟨_, _, h1⟩

theorem set_at {ps : List Pr} {i : Nat} {P : Pr} (h : ps[i]? = some P) (q : Pr) : (ps.set i q)[i]? = some q := by
  obtain ⟨hi, _⟩ := List.getElem?_eq_some_iff.1 h
  exact List.getElem?_set_self hi

end Go.Proofs.YthmhfilkgggagaaGreatDoor

namespace Go.Proofs.YthmhfilkgggagaaGreatDoor
open Go.RowKit Go.Maps Go.Sort

set_option maxRecDepth 100000 in
set_option maxHeartbeats 4000000 in
theorem begin_any (w0 : World) (wb : Nat) (v : Value) (ps : List Pr) (b : Nat) (t : List UInt8) (W : World) (h : LawW w0 wb v ps W) (hn : ps.length ≤ 8796093022000) (hag : AgreeN ps b) :
    Calls Tryz.prog 37 #[.pointer (some ⟨wb, 0, none⟩), .string ⟨t.toArray⟩] W fun e w' => e = .returned (.bool true) ∧ ∃ v' ps', LawW w0 wb v' ps' w' ∧ AgreeN ps' b ∧ ps'.length = ps.length + if (readS t).1.isSome = true then 1 else 0 := by
  obtain ⟨i0, hi, hz0, hz1, hz2⟩ := info_parts info_pair
  have hnew := hide (new_any t W h.env)
  have HH := hide h
  obtain ⟨c0, _, _, f0⟩ := h.cells
  have hlt := h.lt
  obtain ⟨av, cv, rfl⟩ := h.shape
  have HAG := hide hag
  clear h hag
  cases hr : (readS t).1 with
  | none =>
    have HR := hide hr
    have hn2 := hide (fun W1 (hb : Below W.heap.size W W1) => refNew_any t W1 (((unhide HH).step hb).env.size))
    clear hr
    go_enter Tryz.func37, Tryz.ntmps37
    go_wp2_with fail
    refine (unhide hnew).mono ?_
    rintro e w1 ⟨hb1, hm1⟩
    rw [unhide HR] at hm1
    obtain ⟨rfl, hne⟩ := hm1
    go_wp2_with fail
    refine (unhide hn2 w1 hb1).mono ?_
    rintro e w2 ⟨hb2, hm2⟩
    rcases hm2 with ⟨_, rfl⟩ | ⟨l, rb, v, h1, _⟩
    · clear hne
      go_wp2
      go_ret
      exact ⟨rfl, _, ps, ((unhide HH).step hb1).step hb2, unhide HAG, rfl⟩
    · rw [unhide HR] at h1; cases h1
  | some l =>
    have HR := hide hr
    have hn2 := hide (fun W1 (hb : Below W.heap.size W W1) => refNew_any t W1 (((unhide HH).step hb).env.size))
    clear hr
    go_enter Tryz.func37, Tryz.ntmps37
    go_wp2_with fail
    refine (unhide hnew).mono ?_
    rintro e w1 ⟨hb1, hm1⟩
    rw [unhide HR] at hm1
    obtain ⟨sb, tb, mb, n, lb, rfl, hsl, l1, l2, l3, l4⟩ := hm1
    have HSL := hide hsl
    clear hsl
    go_wp2_with fail
    refine (unhide hn2 w1 hb1).mono ?_
    rintro e w2 ⟨hb2, hm2⟩
    rcases hm2 with ⟨h1, _⟩ | ⟨l', rb, vr, h1, rfl, href, l5, l6⟩
    · rw [unhide HR] at h1; cases h1
    · have hll : l' = l := by rw [unhide HR] at h1; cases h1; rfl
      subst hll
      have HL2 := hide (((unhide HH).step hb1).step hb2)
      have hs1 := hb1.size
      have hs2 := hb2.size
      have hsA : (⟨sb, tb, mb, n, lb, 0, l', []⟩ : St).At w1 := unhide HSL
      have hfs : ∀ k, (⟨sb, tb, mb, n, lb, 0, l', []⟩ : St).foot k → W.heap.size ≤ k ∧ k < w1.heap.size := by
        intro k hk
        refine ⟨?_, hsA.lt hk⟩
        rcases hk with hk | hk | hk | hk
        · have : k = sb := hk
          omega
        · have : k = tb := hk
          omega
        · have : k = mb := hk
          omega
        · have : k = lb := hk
          omega
      have hfr : ∀ k, (⟨rb, vr, .slice none 0 0, 0, l', []⟩ : Rf).foot k → w1.heap.size ≤ k := by
        intro k hk
        rcases hk with hk | hk | hk
        · have : k = rb := hk
          omega
        · exact l6 k hk
        · cases hk
      have hQA : Pr.At ⟨⟨sb, tb, mb, n, lb, 0, l', []⟩, ⟨rb, vr, .slice none 0 0, 0, l', []⟩⟩ w2 :=
        ⟨IsSl.below hsA hb2, ⟨href.at_, href.own, World.ownsRow_nil _ _ _ _, href.ok, href.dflt, href.low⟩, fun k h1 h2 => by
          have := (hfs k h1).2
          have := hfr k h2
          omega⟩
      have HFS := hide hfs; have HFR := hide hfr; have HQA := hide hQA
      obtain ⟨c0', _, _, f0'⟩ := (unhide HL2).cells
      have hlt2 : wb < w2.heap.size := by omega
      have hw0 := hide (unhide HH).below.size
      clear h1 href c0 f0 hsA hfs hfr hQA l1 l2 l3 l4 l5 l6
      go_wp2_with (at_builtin; refine wpList_append_lies _ rfl (.tmp 44) (.tmp 48) 80 rfl w0.heap.size 136 i0 (.agg #[.pointer none, .pointer none]) 2 16 Tryz.underlying80 hi hz0 hz1 hz2 rfl (by decide) _ _ _ rfl ((unhide HL2).row.alloc _) ⟨w2.heap.size, 0, none⟩ 1 1 [.pointer (some ⟨sb, 0, none⟩), .pointer (some ⟨rb, 0, none⟩)] rfl rfl (cell_new_at _ _ _ _ rfl) (by intro u hu; simp at hu; rcases hu with rfl | rfl <;> rfl) (by omega) (by unfold maxLen; omega) (by omega) (by have := unhide hw0; simp; omega) _ rfl ?_; intro g3 c3 w3 hown3 hgrow3 hat3 hlt3; obtain ⟨x0, x1⟩ := ((unhide HL2).step (Below.alloc1 _ _)).rowed hgrow3; have HO3 := hide hown3; have HG3 := hide hgrow3; have HA3 := hide hat3; clear hown3 hgrow3 hat3 c0' f0')
      go_ret
      refine ⟨rfl, .slice (some ⟨g3, 0, none⟩) (ps.length + 1) c3, ps ++ [⟨⟨sb, tb, mb, n, lb, 0, l', []⟩, ⟨rb, vr, .slice none 0 0, 0, l', []⟩⟩], ?_, ?_, ?_⟩
      · have hq : ∀ k, Pr.foot ⟨⟨sb, tb, mb, n, lb, 0, l', []⟩, ⟨rb, vr, .slice none 0 0, 0, l', []⟩⟩ k → W.heap.size ≤ k := by
          intro k hk
          rcases hk with hk | hk
          · exact (unhide HFS k hk).1
          · exact Nat.le_trans hs1 (unhide HFR k hk)
        refine ((unhide HL2).step (Below.alloc1 _ _)).more ⟨⟨sb, tb, mb, n, lb, 0, l', []⟩, ⟨rb, vr, .slice none 0 0, 0, l', []⟩⟩ ((unhide HQA).below (Below.alloc1 _ _)) ?_ ?_ (unhide HG3) ?_ (unhide HO3)
        · intro p hp k h1 h2
          have := ((unhide HH).each p hp).lt h1
          have := hq k h2
          omega
        · intro k hk
          have h1 := hq k hk
          have := unhide hw0
          refine ⟨by omega, by omega, fun e => ?_⟩
          have := row_lt (unhide HH).row e
          omega
        · rcases unhide HA3 with h3 | h3
          · exact .inl h3.symm
          · right
            intro g hg
            simp only [Value.ownBlock] at hg
            cases hg
            rw [h3]
            exact Nat.le_refl _
      · intro p hp
        rcases List.mem_append.1 hp with hp | hp
        · exact unhide HAG p hp
        · simp at hp; subst hp; exact ⟨⟨rfl, rfl, Agr.nil⟩, Nat.zero_le _⟩
      · simp

abbrev opV (k m a : Int) (s t u : ByteArray) (lv : Value) : Value := .agg #[.int .i64 k, .int .i64 m, .int .i64 a, .string s, .string t, .string u, lv]

theorem pick_place (m : Int) (N : Nat) (hN : 0 < N) : ∃ (r : Int) (i : Nat), m.tmod N = r ∧ (r + N).tmod N = i ∧ i < N ∧ -(N : Int) < r ∧ r < N := by
  have h1 := Int.tmod_lt_of_pos m (b := (N : Int)) (by omega)
  have h2 : -(N : Int) < m.tmod N := by
    by_cases h : 0 ≤ m
    · have := Int.tmod_nonneg (N : Int) h; omega
    · have := Int.tmod_lt_of_pos (-m) (b := (N : Int)) (by omega)
      rw [Int.neg_tmod] at this
      omega
  obtain ⟨i, hi, e⟩ := tmod_pick (m.tmod N + N) N (by omega) hN
  exact ⟨_, i, rfl, e, hi, h2, h1⟩

theorem LawW.pick {w0 : World} {wb : Nat} {v : Value} {ps : List Pr} {W : World} (h : LawW w0 wb v ps W) (hp : 0 < ps.length) (m : Int) : ∃ (g cap N : Nat) (r : Int) (i : Nat) (P : Pr), v = .slice (some ⟨g, 0, none⟩) N cap ∧ g < W.heap.size ∧ N = ps.length ∧ 0 < N ∧ m.tmod N = r ∧ (r + N).tmod N = i ∧ i < N ∧ -(N : Int) < r ∧ r < N ∧
    W.cell? ⟨g, i * 2, none⟩ = some (.pointer (some ⟨P.s.sb, 0, none⟩)) ∧ W.cell? ⟨g, i * 2 + 1, none⟩ = some (.pointer (some ⟨P.r.rb, 0, none⟩)) ∧ ps[i]? = some P ∧ P.At W ∧ P ∈ ps := by
  obtain ⟨g, cap, hv, hgc, hgz, hgcell⟩ : ∃ g cap, v = .slice (some ⟨g, 0, none⟩) ps.length cap ∧ ps.length ≤ cap ∧ g < W.heap.size ∧ ∀ j u, (pairAll ps)[j]? = some u → W.cell? ⟨g, j, none⟩ = some u := by
    rcases own_shape h.row with ⟨_, h⟩ | h
    · omega
    · exact h
  obtain ⟨r, i, hr1, hr2, hi, hb1, hb2⟩ := pick_place m ps.length hp
  exact ⟨g, cap, ps.length, r, i, ps[i], hv, hgz, rfl, hp, hr1, hr2, hi, hb1, hb2, hgcell (i * 2) _ (pairAll_at ps i hi 0 (by omega)), hgcell (i * 2 + 1) _ (pairAll_at ps i hi 1 (by omega)), List.getElem?_eq_getElem hi, h.each _ (List.getElem_mem hi), List.getElem_mem hi⟩

theorem AgreeN.two {ps : List Pr} {b b' : Nat} (hb : b ≤ b') (h : AgreeN ps b) (i : Nat) (q q' : Pr) (hq : q'.Agree ∧ q'.r.bs.length ≤ b') : AgreeN ((ps.set i q).set i q') b' ∧ ((ps.set i q).set i q').length = ps.length := by
  rw [List.set_set]
  exact ⟨h.set hb i q' hq, by simp⟩

theorem cell_made (w : World) (cs : Array Value) (t : TypeId) (j : Nat) (v : Value) (h : cs[j]? = some v) : (w.alloc (.cells cs t)).cell? ⟨w.heap.size, j, none⟩ = some v := by
  simp only [World.cell?, (MapKept.heap_alloc w (.cells cs t)).1]
  simpa using h

/-- The call's own two blocks, whatever the calls did. -/
structure Own2 (W : World) (k m a : Int) (S T U : ByteArray) (lv : Value) (sb rb : Nat) (X : World) : Prop where
  o0 : X.cell? ⟨W.heap.size, 0, none⟩ = some (.int .i64 k)
  o2 : X.cell? ⟨W.heap.size, 2, none⟩ = some (.int .i64 a)
  o3 : X.cell? ⟨W.heap.size, 3, none⟩ = some (.string S)
  o4 : X.cell? ⟨W.heap.size, 4, none⟩ = some (.string T)
  o5 : X.cell? ⟨W.heap.size, 5, none⟩ = some (.string U)
  p0 : X.cell? ⟨W.heap.size + 1, 0, none⟩ = some (.pointer (some ⟨sb, 0, none⟩))
  p1 : X.cell? ⟨W.heap.size + 1, 1, none⟩ = some (.pointer (some ⟨rb, 0, none⟩))

theorem Own2.of {W X : World} {k m a : Int} {S T U : ByteArray} {lv : Value} {sb rb : Nat} (hg : ∀ b, b = W.heap.size ∨ b = W.heap.size + 1 → X.heap[b]? = (((W.alloc (.cells #[.int .i64 k, .int .i64 m, .int .i64 a, .string S, .string T, .string U, lv] 87)).alloc (.cells #[.pointer (some ⟨sb, 0, none⟩), .pointer (some ⟨rb, 0, none⟩)] 136)).drew).heap[b]?) : Own2 W k m a S T U lv sb rb X := by
  have h0 := hg W.heap.size (.inl rfl)
  have h1 := hg (W.heap.size + 1) (.inr rfl)
  have e0 : (((W.alloc (.cells #[.int .i64 k, .int .i64 m, .int .i64 a, .string S, .string T, .string U, lv] 87)).alloc (.cells #[.pointer (some ⟨sb, 0, none⟩), .pointer (some ⟨rb, 0, none⟩)] 136)).drew).heap[W.heap.size]? = some (.cells #[.int .i64 k, .int .i64 m, .int .i64 a, .string S, .string T, .string U, lv] 87 (0, 0)) := by
    show ((W.alloc _).alloc _).heap[W.heap.size]? = _
    rw [(Below.alloc1 (W.alloc _) _).block W.heap.size (by simp)]
    exact (MapKept.heap_alloc W _).1
  have e1 : (((W.alloc (.cells #[.int .i64 k, .int .i64 m, .int .i64 a, .string S, .string T, .string U, lv] 87)).alloc (.cells #[.pointer (some ⟨sb, 0, none⟩), .pointer (some ⟨rb, 0, none⟩)] 136)).drew).heap[W.heap.size + 1]? = some (.cells #[.pointer (some ⟨sb, 0, none⟩), .pointer (some ⟨rb, 0, none⟩)] 136 (0, 0)) := by
    have := (MapKept.heap_alloc (W.alloc (.cells #[.int .i64 k, .int .i64 m, .int .i64 a, .string S, .string T, .string U, lv] 87)) (.cells #[.pointer (some ⟨sb, 0, none⟩), .pointer (some ⟨rb, 0, none⟩)] 136)).1
    rw [World.size_alloc] at this
    exact this
  rw [e0] at h0
  rw [e1] at h1
  constructor <;> simp [World.cell?, h0, h1]


theorem Own2.only {W X X' : World} {k m a : Int} {S T U : ByteArray} {lv : Value} {sb rb : Nat} (h : Own2 W k m a S T U lv sb rb X) (hs : W.heap.size + 2 ≤ X.heap.size) {F : Nat → Prop} (hg : Only F X X') (hr : ∀ x, F x → x < W.heap.size ∨ W.heap.size + 2 ≤ x) : Own2 W k m a S T U lv sb rb X' := by
  have e : ∀ b o, b = W.heap.size ∨ b = W.heap.size + 1 → X'.cell? ⟨b, o, none⟩ = X.cell? ⟨b, o, none⟩ := by
    intro b o hb
    refine World.cell?_of_block (hg.block b (by omega) (fun e => ?_))
    have := hr b e
    omega
  exact ⟨(e _ _ (.inl rfl)).trans h.o0, (e _ _ (.inl rfl)).trans h.o2, (e _ _ (.inl rfl)).trans h.o3, (e _ _ (.inl rfl)).trans h.o4, (e _ _ (.inl rfl)).trans h.o5, (e _ _ (.inr rfl)).trans h.p0, (e _ _ (.inr rfl)).trans h.p1⟩

end Go.Proofs.YthmhfilkgggagaaGreatDoor

namespace Go.Proofs.YthmhfilkgggagaaGreatDoor
open Go.RowKit Go.Maps Go.Sort

theorem two_reload (P : Pr) (b : Nat) (hP : P.Agree) (hb : P.r.bs.length ≤ b) (s : List UInt8) : ∃ TA : Pr → Prop,
    (∀ X, P.At X → Env X → Calls Tryz.prog 26 #[.pointer (some ⟨P.s.sb, 0, none⟩), .string ⟨s.toArray⟩] X fun e w' => e = .returned (.tuple #[.int .i64 (readS s).2.1, .int .i64 (readS s).2.2]) ∧ ∃ q, WentP P q X w' ∧ TA q) ∧
    (∀ X q, TA q → q.At X → Calls Tryz.prog 58 #[.pointer (some ⟨P.r.rb, 0, none⟩), .string ⟨s.toArray⟩] X fun e w' => e = .returned (.tuple #[.int .i64 (readS s).2.1, .int .i64 (readS s).2.2]) ∧ ∃ q', WentP q q' X w' ∧ q'.Agree ∧ q'.r.bs.length ≤ b + 2) := by
  refine ⟨fun q => q.r = P.r ∧ q.s.l = (readS s).1.getD P.s.l ∧ q.s.tm = P.s.tm ∧ q.s.lv = P.s.lv, fun X hX hE => ?_, fun X q hT hq => ?_⟩
  · exact (st_reload P.s s X hX.sl hE).mono fun _ _ ⟨e, u, h1, h2, h3, h4⟩ => ⟨e, ⟨u, P.r⟩, WentP.left hX h1, rfl, h2, h3, h4⟩
  · obtain ⟨qs, qr⟩ := q
    obtain ⟨rfl, h2, h3, h4⟩ := hT
    exact (rf_reload P.r s X hq.ref).mono fun _ _ ⟨e, u, g1, g2, g3, g4⟩ => ⟨e, ⟨qs, u⟩, WentP.right hq g1, ⟨(h2.trans (by rw [hP.l])).trans g2.symm, (h3.trans hP.tm).trans g3.symm, by
      show Agr qs.lv u.bs
      have h5 : qs.lv = P.s.lv := h4
      rw [h5, g4]; exact hP.lv⟩, by show u.bs.length ≤ b + 2; rw [g4]; omega⟩

theorem two_limits (P : Pr) (b : Nat) (hP : P.Agree) (hb : P.r.bs.length ≤ b) : ∃ TA : Pr → Prop,
    (∀ X, P.At X → Env X → Calls Tryz.prog 19 #[.pointer (some ⟨P.s.sb, 0, none⟩)] X fun e w' => e = .returned (.string ⟨(textOf P.s.l).toArray⟩) ∧ ∃ q, WentP P q X w' ∧ TA q) ∧
    (∀ X q, TA q → q.At X → Calls Tryz.prog 59 #[.pointer (some ⟨P.r.rb, 0, none⟩)] X fun e w' => e = .returned (.string ⟨(textOf P.s.l).toArray⟩) ∧ ∃ q', WentP q q' X w' ∧ q'.Agree ∧ q'.r.bs.length ≤ b) := by
  refine ⟨fun q => q = P, fun X hX hE => ?_, fun X q hT hq => ?_⟩
  · exact (st_limits P.s X hX.sl hE).mono fun _ _ ⟨e, h1⟩ => ⟨e, P, WentP.left hX h1, rfl⟩
  · subst hT
    rw [hP.l]
    exact (rf_limits q.r X hq.ref).mono fun _ _ ⟨e, h1⟩ => ⟨e, q, WentP.right hq h1, hP, hb⟩

theorem two_limit (P : Pr) (b : Nat) (hP : P.Agree) (hb : P.r.bs.length ≤ b) (s t u : List UInt8) (ht : t.length ≤ 281474976710656) (hu : u.length ≤ 281474976710656) : ∃ TA : Pr → Prop,
    (∀ X, P.At X → Env X → Calls Tryz.prog 22 #[.pointer (some ⟨P.s.sb, 0, none⟩), .string ⟨s.toArray⟩, .string ⟨t.toArray⟩, .string ⟨u.toArray⟩] X fun e w' => e = .returned (.tuple #[limV (limitA P.s.l s t u).1, .int .i64 (limitA P.s.l s t u).2]) ∧ ∃ q, WentP P q X w' ∧ TA q) ∧
    (∀ X q, TA q → q.At X → Calls Tryz.prog 60 #[.pointer (some ⟨P.r.rb, 0, none⟩), .string ⟨s.toArray⟩, .string ⟨t.toArray⟩, .string ⟨u.toArray⟩] X fun e w' => e = .returned (.tuple #[limV (limitA P.s.l s t u).1, .int .i64 (limitA P.s.l s t u).2]) ∧ ∃ q', WentP q q' X w' ∧ q'.Agree ∧ q'.r.bs.length ≤ b + 2) := by
  refine ⟨fun q => q = P, fun X hX hE => ?_, fun X q hT hq => ?_⟩
  · exact (st_limit P.s s t u X hX.sl).mono fun _ _ ⟨e, h1⟩ => ⟨e, P, WentP.left hX h1, rfl⟩
  · subst hT
    rw [hP.l]
    exact (rf_limit q.r s t u X hq.ref ht hu).mono fun _ _ ⟨e, h1⟩ => ⟨e, q, WentP.right hq h1, hP, by omega⟩

theorem two_tick (P : Pr) (b : Nat) (hP : P.Agree) (hb : P.r.bs.length ≤ b) (hb2 : b ≤ 2932031007400) (d : Int) : ∃ TA : Pr → Prop,
    (∀ X, P.At X → Env X → Calls Tryz.prog 31 #[.pointer (some ⟨P.s.sb, 0, none⟩), .int .i64 d] X fun e w' => e = .returned (.int .i64 (tickA P.s.tm d : Nat)) ∧ ∃ q, WentP P q X w' ∧ TA q) ∧
    (∀ X q, TA q → q.At X → Calls Tryz.prog 61 #[.pointer (some ⟨P.r.rb, 0, none⟩), .int .i64 d] X fun e w' => e = .returned (.int .i64 (tickA P.s.tm d : Nat)) ∧ ∃ q', WentP q q' X w' ∧ q'.Agree ∧ q'.r.bs.length ≤ b + 2) := by
  refine ⟨fun q => q.r = P.r ∧ P.s.tm ≤ 1000000000000 ∧ q.s.l = P.s.l ∧ q.s.tm = (if tickA P.s.tm d = 0 then P.s.tm + d.toNat else P.s.tm) ∧ q.s.lv = (if tickA P.s.tm d = 0 then fallV P.s.l d.toNat P.s.lv else P.s.lv), fun X hX hE => ?_, fun X q hT hq => ?_⟩
  · have htm : P.s.tm ≤ 1000000000000 := IsSl.core hX.sl |>.time
    exact (st_tick P.s d X hX.sl).mono fun _ _ ⟨e, u, h1, h2, h3, h4⟩ => ⟨e, ⟨u, P.r⟩, WentP.left hX h1, rfl, htm, h2, h3, h4⟩
  · obtain ⟨qs, qr⟩ := q
    obtain ⟨rfl, htm, h2, h3, h4⟩ := hT
    rw [hP.tm] at htm h3 h4 ⊢
    refine (rf_tick P.r d X hq.ref htm (by omega) hP.lv.le).mono fun _ _ ⟨e, u, g1, g2, g3, g4⟩ => ⟨e, ⟨qs, u⟩, WentP.right hq g1, ⟨(h2.trans hP.l).trans g2.symm, h3.trans g3.symm, ?_⟩, ?_⟩
    · show Agr qs.lv u.bs
      have h5 : qs.lv = _ := h4
      rw [h5, g4]
      split
      · rw [hP.l]; exact hP.lv.fall _ _
      · exact hP.lv
    · show u.bs.length ≤ b + 2
      rw [g4]
      split
      · simp; omega
      · omega

theorem one_now (P : Pr) : ∀ X, P.At X → Env X → Calls Tryz.prog 30 #[.pointer (some ⟨P.s.sb, 0, none⟩)] X fun e w' => e = .returned (.int .i64 (P.s.tm : Nat)) ∧ WentP P P X w' :=
  fun X hX _ => (st_now P.s X hX.sl).mono fun _ _ ⟨e, h1⟩ => ⟨e, WentP.left hX h1⟩

theorem two_level (P : Pr) (b : Nat) (hP : P.Agree) (hb : P.r.bs.length ≤ b) (hb2 : b ≤ 2932031007400) (s t u : List UInt8) (ht : t.length ≤ 281474976710656) (hu : u.length ≤ 281474976710656) : ∃ TA : Pr → Prop,
    (∀ X, P.At X → Env X → Calls Tryz.prog 28 #[.pointer (some ⟨P.s.sb, 0, none⟩), .string ⟨s.toArray⟩, .string ⟨t.toArray⟩, .string ⟨u.toArray⟩] X fun e w' => e = .returned (.tuple #[.int .i64 (levelA P.s.lv s t u).1, .int .i64 (levelA P.s.lv s t u).2]) ∧ ∃ q, WentP P q X w' ∧ TA q) ∧
    (∀ X q, TA q → q.At X → Calls Tryz.prog 63 #[.pointer (some ⟨P.r.rb, 0, none⟩), .string ⟨s.toArray⟩, .string ⟨t.toArray⟩, .string ⟨u.toArray⟩] X fun e w' => e = .returned (.tuple #[.int .i64 (levelA P.s.lv s t u).1, .int .i64 (levelA P.s.lv s t u).2]) ∧ ∃ q', WentP q q' X w' ∧ q'.Agree ∧ q'.r.bs.length ≤ b + 2) := by
  refine ⟨fun q => q = P, fun X hX hE => ?_, fun X q hT hq => ?_⟩
  · exact (st_level P.s s t u X hX.sl).mono fun _ _ ⟨e, h1⟩ => ⟨e, P, WentP.left hX h1, rfl⟩
  · subst hT
    exact (rf_level q.r q.s.lv s t u X hq.ref hP.lv (by omega) ht hu).mono fun _ _ ⟨e, u, g1, g2, g3, g4, g5⟩ => ⟨e, ⟨q.s, u⟩, WentP.right hq g1, ⟨hP.l.trans g2.symm, hP.tm.trans g3.symm, g4⟩, by show u.bs.length ≤ b + 2; omega⟩

theorem two_sweep (P : Pr) (b : Nat) (hP : P.Agree) (hb : P.r.bs.length ≤ b) (hb2 : b ≤ 2932031007400) : ∃ TA : Pr → Prop,
    (∀ X, P.At X → Env X → Calls Tryz.prog 33 #[.pointer (some ⟨P.s.sb, 0, none⟩)] X fun e w' => e = .returned (.int .i64 (P.s.lv.length : Nat)) ∧ ∃ q, WentP P q X w' ∧ TA q) ∧
    (∀ X q, TA q → q.At X → Calls Tryz.prog 64 #[.pointer (some ⟨P.r.rb, 0, none⟩)] X fun e w' => e = .returned (.int .i64 (P.s.lv.length : Nat)) ∧ ∃ q', WentP q q' X w' ∧ q'.Agree ∧ q'.r.bs.length ≤ b + 2) := by
  refine ⟨fun q => q = P, fun X hX hE => ?_, fun X q hT hq => ?_⟩
  · exact (st_sweep P.s X hX.sl).mono fun _ _ ⟨e, h1⟩ => ⟨e, P, WentP.left hX h1, rfl⟩
  · subst hT
    exact (rf_sweep q.r q.s.lv X hq.ref hP.lv (by omega)).mono fun _ _ ⟨e, h1⟩ => ⟨e, q, WentP.right hq h1, hP, by omega⟩

end Go.Proofs.YthmhfilkgggagaaGreatDoor

namespace Go.Proofs.YthmhfilkgggagaaGreatDoor
open Go.RowKit Go.Maps Go.Sort

theorem two_admit (P : Pr) (b : Nat) (hP : P.Agree) (hb : P.r.bs.length ≤ b) (hb2 : b ≤ 2932031007400) (s t u : List UInt8) (a : Int) (ht : t.length ≤ 281474976710656) (hu : u.length ≤ 281474976710656) : ∃ TA : Pr → Prop,
    (∀ X, P.At X → Env X → Calls Tryz.prog 29 #[.pointer (some ⟨P.s.sb, 0, none⟩), reqV s t u a] X fun e w' => e = .returned (.tuple #[ansV (admA P.s.l P.s.lv s t u a).1.1, .int .i64 (admA P.s.l P.s.lv s t u a).1.2]) ∧ ∃ q, WentP P q X w' ∧ TA q) ∧
    (∀ X q, TA q → q.At X → Calls Tryz.prog 62 #[.pointer (some ⟨P.r.rb, 0, none⟩), reqV s t u a] X fun e w' => e = .returned (.tuple #[ansV (admA P.s.l P.s.lv s t u a).1.1, .int .i64 (admA P.s.l P.s.lv s t u a).1.2]) ∧ ∃ q', WentP q q' X w' ∧ q'.Agree ∧ q'.r.bs.length ≤ b + 2) := by
  refine ⟨fun q => q.r = P.r ∧ (P.s.lv.length ≤ 64 ∧ OkPos P.s.l) ∧ q.s.l = P.s.l ∧ q.s.tm = P.s.tm ∧ q.s.lv = (admA P.s.l P.s.lv s t u a).2, fun X hX hE => ?_, fun X q hT hq => ?_⟩
  · have hsl : IsSl X P.s.sb P.s.tb P.s.mb P.s.n P.s.l P.s.lb P.s.tm P.s.lv := hX.sl
    exact (st_admit P.s s t u a X hX.sl).mono fun _ _ ⟨e, v, h1, h2, h3, h4⟩ => ⟨e, ⟨v, P.r⟩, WentP.left hX h1, rfl, ⟨hsl.core.few, hsl.okp⟩, h2, h3, h4⟩
  · obtain ⟨qs, qr⟩ := q
    obtain ⟨rfl, ⟨hf, hpos⟩, h2, h3, h4⟩ := hT
    rw [hP.l] at hpos h4 h2 ⊢
    exact (rf_admit P.r P.s.lv s t u a X hq.ref hP.lv hf hpos (by omega) ht hu).mono fun _ _ ⟨e, v, g1, g2, g3, g4, g5⟩ => ⟨e, ⟨qs, v⟩, WentP.right hq g1, ⟨h2.trans g2.symm, (h3.trans hP.tm).trans g3.symm, by
      show Agr qs.lv v.bs
      have h5 : qs.lv = _ := h4
      rw [h5]; exact g4⟩, by show v.bs.length ≤ b + 2; omega⟩

end Go.Proofs.YthmhfilkgggagaaGreatDoor
