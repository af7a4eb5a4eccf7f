/-
  The document's answer, for stage 2: Tick.
  The levels that the program holds and those that the document holds: when they agree.
  The document's sluice as one record; its calls over it.
-/
import Derived.Test.YthmhfilkgggagaaGreatDoorRefT
import Derived.Test.YthmhfilkgggagaaGreatDoorLevC
import Derived.Test.YthmhfilkgggagaaGreatDoorRefM
namespace Go.Proofs.YthmhfilkgggagaaGreatDoor
open Go.RowKit Go.Maps Go.Sort

set_option maxRecDepth 100000 in
set_option maxHeartbeats 8000000 in
theorem refTick_good (rb : Nat) (v vB : Value) (tm : Nat) (l : List (Sl.Subj × Sl.Lim)) (bs : List Bk) (n : Nat) (w : World) (h : IsRefB w rb v vB tm l bs) (ht : tm + n ≤ 1000000000000) (hN : bs.length ≤ 2932031007401) (hbs : ∀ b ∈ bs, b.cls < 2 ∧ b.level ≤ 4000000000000000) :
    Calls Tryz.prog 61 #[.pointer (some ⟨rb, 0, none⟩), .int .i64 n] w fun e w' => e = .returned (.int .i64 0) ∧ IsRefB w' rb v vB (tm + n) l (bs.map (fall l n)) ∧ Turned2 w rb vB.ownBlock w' := by
  obtain ⟨_, c1, c2, fz⟩ := h.cells
  have f2 := fz 2
  have hrb := h.lt
  have HH := hide h; have HBS := hide hbs
  have hn1 : ¬ (n : Int) < 0 := by omega
  have hn2 : ¬ (1000000000000 : Int) < (n : Int) := by omega
  have hn3 : ¬ (1000000000000 : Int) < (tm : Int) + (n : Int) := by omega
  clear h hbs fz c1
  go_enter Tryz.func61, Tryz.ntmps61
  go_wp2_with fail
  go_loopw [5] (fun vi wr => ∃ i : Nat, vi = .int .i64 i ∧ i ≤ bs.length ∧ IsRefB wr rb v vB (tm + n) l (fallTo l n bs i) ∧ Turned2 w rb vB.ownBlock wr) (fun vi _ => bs.length - (intOf vi).toNat)
  case atStart =>
    refine ⟨0, rfl, Nat.zero_le _, ?_, (Turned2.refl w rb _).grown (grown_set w rb 2 _) (.inr (.inl rfl))⟩
    have h1 := (unhide HH).setTime (tm + n)
    have e : ((tm + n : Nat) : Int) = (tm : Int) + n := by omega
    rw [e] at h1
    simpa [fallTo] using h1
  case round =>
    obtain ⟨i, rfl, hi, hI, hT⟩ := hrel
    have HI := hide hI; have HT := hide hT
    have hlen := fallTo_len l n bs i hi
    have hrb1 := hI.lt
    obtain ⟨_, d1, _, _⟩ := hI.cells
    by_cases hlt : i < bs.length
    · obtain ⟨g, cap, ev, hg, x0, x1, x2, x3⟩ := hI.nth (i := i) (by rw [hlen]; exact hlt)
      rw [fallTo_at l n bs i hlt] at x0 x1 x2 x3
      obtain ⟨hcls, hlv⟩ := unhide HBS _ (List.getElem_mem hlt)
      have hnext := fallTo_next l n bs i hlt
      rw [ev, hlen] at d1
      have hii : (i : Int) < (bs.length : Int) := by omega
      have hput := fun (W : World) (u : Value) (lv : Nat) (hW : IsRefB W rb v (.slice (some ⟨g, 0, none⟩) (fallTo l n bs i).length cap) (tm + n) l (fallTo l n bs i)) => And.intro (hW.setLevel i (by rw [hlen]; exact hlt) lv) (hW.setLevel2 (u := u) i (by rw [hlen]; exact hlt) lv)
      rw [fallTo_at l n bs i hlt] at hput
      generalize hbe : bs[i] = b at *
      obtain ⟨M, hM⟩ : ∃ M, M = limitS l b.cls b.org b.ten := ⟨_, rfl⟩
      have hMr : M.rate ≤ 1000000 := by rw [hM]; exact limitS_le (unhide HI).ok _ _ _
      have hfall : fall l n b = { b with level := b.level - n * M.rate } := by unfold fall; rw [← hM]
      rw [hfall] at hnext
      have hXb : n * M.rate ≤ 1000000000000000000 := Nat.le_trans (Nat.mul_le_mul (by omega : n ≤ 1000000000000) hMr) (by omega)
      have hXe : (n : Int) * (M.rate : Int) = ((n * M.rate : Nat) : Int) := by simp
      generalize n * M.rate = X at *
      have HNX := hide hnext; have HPU := hide hput; have HEV := hide ev; have HLN := hide hlen; have HM := hide hM
      have HX := hide (And.intro x0 (And.intro x1 (And.intro x2 x3)))
      have hlive : wr.frozen? ⟨g, i * 4 + 3, none⟩ = false := by
        rcases (unhide HI).ownB.2 with ⟨e1, _⟩ | ⟨g', cap', cur, e1, hb, hgg, _⟩
        · rw [ev] at e1; cases e1
        · rw [ev] at e1; cases e1; simp [World.frozen?, hgg]
      have HLV := hide hlive
      clear hnext hput ev hlen hfall hM hI hT x0 x1 x2 x3 hlive
      go_wp2_with fail
      refine tick_reg8 _ _ _ _ _ _ _ _ _ _ _ _ _ _ _ _ _ _ _ _ _ _ _ _ _ _ _ _ _ _ _ _ _ _ _ _ _ _ _ _ _ _ _ _ _ _ _ _ _ _ _ _ _ _ _ _ _ _ _ _ _ _ _ _ _ _ _ _ _ _ _ _ _ _ _ _ _ _ _  rb g i b.cls v vB (tm + n) l (fallTo l n bs i) b.org b.ten _ M (unhide HM) (unhide HI) hcls (unhide HX).1 (unhide HX).2.1 (unhide HX).2.2.1 hg _ ?_
      intro v47 v48 v49 v50 v51 v52 v53 v54 v55 v56 v57 v58 v59 v60 blk W' hbW hbl hbb z0 z1
      have y3 := (hbW.cell (p := ⟨g, i * 4 + 3, none⟩) hg).trans (unhide HX).2.2.2
      have yf := (hbW.frozen (p := ⟨g, i * 4 + 3, none⟩) hg).trans (unhide HLV)
      have HBW := hide hbW
      have hIW := (unhide HI).below hbW.drew
      rw [unhide HEV] at hIW
      generalize hlv0 : b.level = lv at *
      have hLw : IntKind.i64.wrap ((lv : Int) - (X : Int)) = (lv : Int) - (X : Int) := IntWalk.i64_in _ ⟨by omega, by omega⟩
      have hXw : IntKind.i64.wrap (X : Int) = X := IntWalk.i64_in _ ⟨by omega, by omega⟩
      have HIW := hide hIW
      have hng : g ≠ blk := by omega
      clear hbW hIW hlv0
      go_wp2_with fail
      refine wp_region_noPanic ?_
      go_region
      all_goals
        refine NoPanic.normal ?_
        have cs3 : (W'.setCell ⟨g, i * 4 + 3, none⟩ (.int .i64 ((lv : Int) - (X : Int)))).cell? ⟨g, i * 4 + 3, none⟩ = some (.int .i64 ((lv : Int) - (X : Int))) := World.cell?_setCell_same _ _ _ y3
        have HT1 := hide ((unhide HT).grown (grown_below (unhide HBW)) (.inr (.inr rfl)))
        by_cases hneg : (lv : Int) - (X : Int) < 0
        · have hp2 := (unhide HPU _ (.int .i64 ((lv : Int) - (X : Int))) 0 (unhide HIW)).2
          have e0 : lv - X = 0 := by omega
          have hnx := unhide HNX
          rw [e0] at hnx
          rw [← hnx, ← unhide HEV] at hp2
          have HP2 := hide hp2
          clear hp2 hnx
          go_wp2
          go_roundw
          case rel => exact ⟨i + 1, by go_num, by omega, unhide HP2, by
            have h5 := (unhide HT1)
            rw [unhide HEV] at h5 ⊢
            exact ((h5.grown (grown_drew none) (.inr (.inr rfl))).grown (grown_set _ g _ _) (.inl rfl)).grown (grown_set _ g _ _) (.inl rfl)⟩
          case measure => simp [intOf]; omega
        · have hp2 := (unhide HPU _ (.int .i64 0) (lv - X) (unhide HIW)).1
          have e0 : ((lv - X : Nat) : Int) = (lv : Int) - (X : Int) := by omega
          rw [e0] at hp2
          rw [← unhide HNX, ← unhide HEV] at hp2
          have HP2 := hide hp2
          clear hp2
          go_wp2
          go_roundw
          case rel => exact ⟨i + 1, by go_num, by omega, unhide HP2, by
            have h5 := (unhide HT1)
            rw [unhide HEV] at h5 ⊢
            exact (h5.grown (grown_drew none) (.inr (.inr rfl))).grown (grown_set _ g _ _) (.inl rfl)⟩
          case measure => simp [intOf]; omega
    · have hii : ¬ (i : Int) < (bs.length : Int) := by omega
      obtain ⟨a0, cp0, esh⟩ := hI.shape
      rw [hlen] at esh
      have e : i = bs.length := by omega
      have hfin : fallTo l n bs i = bs.map (fall l n) := by rw [e]; simp [fallTo]
      rw [hfin] at hI
      have HI2 := hide hI
      subst esh
      clear hI hT hfin
      go_wp2
      go_ret
      exact ⟨rfl, unhide HI2, unhide HT⟩

end Go.Proofs.YthmhfilkgggagaaGreatDoor

namespace Go.Proofs.YthmhfilkgggagaaGreatDoor
open Go.RowKit Go.Maps Go.Sort

def Bk.kv (b : Bk) : Kb × Nat := ((b.cls, b.org, b.ten), b.level)

theorem sameB_iff (b : Bk) (c : Nat) (org ten : List UInt8) : sameB b c org ten = true ↔ b.kv.1 = (c, org, ten) := by
  simp [sameB, Bk.kv, and_assoc]

/-- Program and document hold the same levels. -/
structure Agr (lv : Lv) (bs : List Bk) : Prop where
  eq : ∀ k, levOf lv k = levOf (bs.map Bk.kv) k
  apart : (bs.map Bk.kv).Pairwise fun a b => a.1 ≠ b.1
  cls : ∀ b ∈ bs, b.cls < 2
  ok : OkV lv

theorem Agr.nil : Agr [] [] := ⟨fun _ => rfl, List.Pairwise.nil, by simp, ⟨by simp, by simp, List.Pairwise.nil⟩⟩

theorem Agr.at_ {lv : Lv} {bs : List Bk} (h : Agr lv bs) {i : Nat} (hi : i < bs.length) : bs[i].level = levOf lv bs[i].kv.1 := by
  rw [h.eq]; exact (levOf_mem h.apart (List.mem_map.2 ⟨bs[i], List.getElem_mem hi, rfl⟩)).symm

theorem Agr.level {lv : Lv} {bs : List Bk} (h : Agr lv bs) (c : Nat) (org ten : List UInt8) : levelOf bs c org ten = levOf lv (c, org, ten) := by
  rcases bFrom_spec c org ten bs 0 with ⟨hf, hn⟩ | ⟨i, hi, hf, hs⟩
  · have : levelOf bs c org ten = 0 := by unfold levelOf; rw [hf]
    rw [this, h.eq, levOf_none]
    intro x hx e
    obtain ⟨b, hb, rfl⟩ := List.mem_map.1 hx
    have := hn b hb
    rw [(sameB_iff b c org ten).2 e] at this
    cases this
  · rw [Nat.zero_add] at hf
    have hL : levelOf bs c org ten = bs[i].level := by unfold levelOf; rw [hf]; simp [hi]
    rw [hL, h.at_ hi, (sameB_iff _ _ _ _).1 hs]

theorem Agr.le {lv : Lv} {bs : List Bk} (h : Agr lv bs) : ∀ b ∈ bs, b.cls < 2 ∧ b.level ≤ 1000000000000000 := by
  intro b hb
  obtain ⟨i, hi, rfl⟩ := List.getElem_of_mem hb
  exact ⟨h.cls _ hb, by rw [h.at_ hi]; exact levOf_le h.ok _⟩

theorem levOf_cons (x : Kb × Nat) (r : Lv) (q : Kb) : levOf (x :: r) q = if x.1 = q then x.2 else levOf r q := by
  unfold levOf
  rw [List.find?_cons]
  by_cases e : x.1 = q
  · rw [if_pos e]; simp [e]
  · rw [if_neg e]
    have : (x.1 == q) = false := by simpa using e
    rw [this]

theorem levOf_snoc (k : Kb) (q : Kb) : ∀ (l : Lv), levOf (l ++ [(k, 0)]) q = levOf l q
  | [] => by rw [List.nil_append, levOf_cons]; split <;> rfl
  | x :: r => by rw [List.cons_append, levOf_cons, levOf_cons, levOf_snoc k q r]

theorem Agr.more {lv : Lv} {bs : List Bk} (h : Agr lv bs) {c : Nat} {org ten : List UInt8} (hc : c < 2) (hn : ∀ b ∈ bs, sameB b c org ten = false) : Agr lv (bs ++ [⟨c, org, ten, 0⟩]) := by
  refine ⟨fun k => ?_, ?_, ?_, h.ok⟩
  · rw [List.map_append, h.eq]; exact (levOf_snoc (c, org, ten) k _).symm
  · rw [List.map_append, List.pairwise_append]
    refine ⟨h.apart, List.pairwise_singleton _ _, ?_⟩
    intro a ha b hb e
    simp at hb
    subst hb
    obtain ⟨x, hx, rfl⟩ := List.mem_map.1 ha
    have := hn x hx
    rw [(sameB_iff x c org ten).2 e] at this
    cases this
  · intro b hb
    rcases List.mem_append.1 hb with hb | hb
    · exact h.cls b hb
    · simp at hb; subst hb; exact hc

theorem levOf_fallB (l : List (Sl.Subj × Sl.Lim)) (n : Nat) (q : Kb) : ∀ (bs : List Bk), levOf ((bs.map (fall l n)).map Bk.kv) q = levOf (bs.map Bk.kv) q - n * (limK l q).rate
  | [] => by simp [levOf]
  | b :: r => by
    rw [List.map_cons, List.map_cons, List.map_cons, levOf_cons, levOf_cons, levOf_fallB l n q r]
    by_cases e : b.kv.1 = q
    · rw [if_pos e, if_pos (show (fall l n b).kv.1 = q from e), ← e]; rfl
    · rw [if_neg e, if_neg (show ¬ (fall l n b).kv.1 = q from e)]

theorem Agr.fall {lv : Lv} {bs : List Bk} (h : Agr lv bs) (l : List (Sl.Subj × Sl.Lim)) (n : Nat) : Agr (fallV l n lv) (bs.map (fall l n)) := by
  refine ⟨fun k => ?_, ?_, ?_, h.ok.fall l n⟩
  · rw [levOf_fall h.ok, levOf_fallB, h.eq]
  · have := h.apart
    rw [List.pairwise_map] at this ⊢
    rw [List.pairwise_map]
    exact this
  · intro b hb
    obtain ⟨x, hx, rfl⟩ := List.mem_map.1 hb
    exact h.cls x hx

theorem levOf_set : ∀ (l : Lv) (i : Nat) (hi : i < l.length) (v : Nat) (q : Kb), (l.Pairwise fun a b => a.1 ≠ b.1) → levOf (l.set i (l[i].1, v)) q = if q = l[i].1 then v else levOf l q
  | [], i, hi, _, _, _ => by simp at hi
  | x :: r, 0, _, v, q, _ => by
    rw [List.set_cons_zero, levOf_cons, levOf_cons]
    simp only [List.getElem_cons_zero]
    by_cases e : x.1 = q
    · rw [if_pos e, if_pos e.symm]
    · rw [if_neg e, if_neg (fun e2 => e e2.symm), if_neg e]
  | x :: r, i + 1, hi, v, q, hp => by
    have hi' : i < r.length := by simpa using hi
    obtain ⟨h1, h2⟩ := List.pairwise_cons.1 hp
    rw [List.set_cons_succ, levOf_cons, levOf_cons]
    simp only [List.getElem_cons_succ]
    rw [levOf_set r i hi' v q h2]
    by_cases e : x.1 = q
    · rw [if_pos e, if_pos e, if_neg]
      intro e2
      exact h1 _ (List.getElem_mem hi') (e.trans e2)
    · rw [if_neg e, if_neg e]

theorem Agr.put {lv : Lv} {bs : List Bk} (h : Agr lv bs) {i : Nat} (hi : i < bs.length) (v : Nat) (k : Kb) (hk : bs[i].kv.1 = k) (hok : OkV (putV lv k v)) : Agr (putV lv k v) (bs.set i { bs[i] with level := v }) := by
  subst hk
  have e : (bs.set i { bs[i] with level := v }).map Bk.kv = (bs.map Bk.kv).set i (((bs.map Bk.kv)[i]'(by simpa using hi)).1, v) := by
    rw [List.map_set]; simp [Bk.kv]
  refine ⟨fun q => ?_, ?_, ?_, hok⟩
  · rw [levOf_put lv _ v q h.ok hok, e, levOf_set _ _ _ _ _ h.apart, h.eq]
    simp
  · rw [e]
    have h2 := h.apart
    have e2 : ((bs.map Bk.kv).set i (((bs.map Bk.kv)[i]'(by simpa using hi)).1, v)).map Prod.fst = (bs.map Bk.kv).map Prod.fst := by
      rw [List.map_set]
      apply List.ext_getElem?
      intro j
      by_cases hj : j = i
      · subst hj; rw [List.getElem?_set_self (by simpa using hi)]; simp [hi]
      · rw [List.getElem?_set_ne (fun e => hj e.symm)]
    have h3 : ((bs.map Bk.kv).map Prod.fst).Pairwise (fun a b => a ≠ b) := List.pairwise_map.2 h2
    rw [← e2] at h3
    exact List.pairwise_map.1 h3
  · intro b hb
    rcases List.mem_or_eq_of_mem_set hb with hb | rfl
    · exact h.cls b hb
    · exact h.cls bs[i] (List.getElem_mem hi)

theorem Agr.full {lv : Lv} {bs : List Bk} (h : Agr lv bs) : fullN bs = lv.length := by
  unfold fullN
  rw [List.countP_eq_length_filter]
  have hp : ((bs.filter fun b => decide (0 < b.level)).map fun b => b.kv.1).Perm (lv.map Prod.fst) := by
    rw [List.perm_ext_iff_of_nodup]
    · intro q
      constructor
      · intro hq
        obtain ⟨b, hb, rfl⟩ := List.mem_map.1 hq
        obtain ⟨hb, hpos⟩ := List.mem_filter.1 hb
        obtain ⟨i, hi, rfl⟩ := List.getElem_of_mem hb
        have h1 := h.at_ hi
        rcases levOf_cases h.ok bs[i].kv.1 with ⟨h2, _⟩ | ⟨x, hx, h2, _⟩
        · simp at hpos; omega
        · rw [← h2]; exact List.mem_map.2 ⟨x, hx, rfl⟩
      · intro hq
        obtain ⟨x, hx, rfl⟩ := List.mem_map.1 hq
        have h1 := levOf_mem h.ok.apart hx
        have h2 := (h.ok.pos x hx).1
        rw [h.eq] at h1
        apply Classical.byContradiction
        intro hn
        have : levOf (bs.map Bk.kv) x.1 = 0 ∨ 0 < levOf (bs.map Bk.kv) x.1 := by omega
        rcases this with h3 | h3
        · omega
        · have hex : ∃ b ∈ bs, b.kv.1 = x.1 := by
            apply Classical.byContradiction
            intro hne
            rw [levOf_none] at h3
            · omega
            · intro y hy e
              obtain ⟨b, hb, rfl⟩ := List.mem_map.1 hy
              exact hne ⟨b, hb, e⟩
          obtain ⟨b, hb, e⟩ := hex
          have h4 : levOf (bs.map Bk.kv) b.kv.1 = b.level := levOf_mem h.apart (List.mem_map.2 ⟨b, hb, rfl⟩)
          rw [e] at h4
          exact hn (List.mem_map.2 ⟨b, List.mem_filter.2 ⟨hb, by simp; omega⟩, e⟩)
    · have h1 : (bs.map fun b => b.kv.1).Nodup := by
        have := h.apart
        rw [List.pairwise_map] at this
        exact List.pairwise_map.2 this
      exact List.Sublist.nodup (List.Sublist.map _ List.filter_sublist) h1
    · exact List.pairwise_map.2 h.ok.apart
  have := hp.length_eq
  simpa using this

end Go.Proofs.YthmhfilkgggagaaGreatDoor

namespace Go.Proofs.YthmhfilkgggagaaGreatDoor
open Go.RowKit Go.Maps Go.Sort

structure Rf where
  rb : Nat
  v : Value
  vB : Value
  tm : Nat
  l : List (Sl.Subj × Sl.Lim)
  bs : List Bk

def Rf.At (r : Rf) (w : World) : Prop := IsRefB w r.rb r.v r.vB r.tm r.l r.bs
def Rf.foot (r : Rf) (k : Nat) : Prop := k = r.rb ∨ r.v.ownBlock = some k ∨ r.vB.ownBlock = some k

/-- A call on the document's sluice led from r to t. -/
structure WentR (r t : Rf) (w w' : World) : Prop where
  at_ : t.At w'
  only : Only r.foot w w'
  foot : ∀ k, t.foot k → r.foot k ∨ w.heap.size ≤ k
  rb : t.rb = r.rb

theorem Rf.At.is {r : Rf} {w : World} (h : r.At w) : IsRefB w r.rb r.v r.vB r.tm r.l r.bs := h

theorem Rf.At.lt {r : Rf} {w : World} (h : r.At w) {k : Nat} (hk : r.foot k) : k < w.heap.size := by
  rcases hk with rfl | hk | hk
  · exact h.is.lt
  · exact row_lt h.is.own hk
  · exact row_lt h.is.ownB hk

theorem Rf.At.of_only {S : Nat → Prop} {r : Rf} {w w' : World} (h : r.At w) (ho : Only S w w') (hS : ∀ k, r.foot k → ¬ S k) : r.At w' := by
  have hb : ∀ k, r.foot k → w'.heap[k]? = w.heap[k]? := fun k hk => ho.block k (h.lt hk) (hS k hk)
  exact ⟨(hb _ (.inl rfl)).trans h.is.at_, row_of h.is.own (fun g hg => hb g (.inr (.inl hg))), row_of h.is.ownB (fun g hg => hb g (.inr (.inr hg))), h.is.ok, h.is.dflt, h.is.low⟩

theorem WentR.of_below {r : Rf} {w w' : World} (h : r.At w) (hb : Below w.heap.size w w') : WentR r r w w' :=
  ⟨h.is.below hb, Only.below hb, fun _ hk => .inl hk, rfl⟩

theorem WentR.same {r : Rf} {w : World} (h : r.At w) : WentR r r w w := ⟨h, Only.refl _ _, fun _ hk => .inl hk, rfl⟩

theorem IsRefB.ref {w : World} {rb : Nat} {v vB : Value} {tm : Nat} {l : List (Sl.Subj × Sl.Lim)} {bs : List Bk} (h : IsRefB w rb v vB tm l bs) : IsRef w rb v vB tm l := ⟨h.at_, h.own, h.ok, h.dflt, h.low⟩

theorem rf_limit (r : Rf) (cls org ten : List UInt8) (w : World) (h : r.At w) (ho : org.length ≤ 281474976710656) (ht : ten.length ≤ 281474976710656) :
    Calls Tryz.prog 60 #[.pointer (some ⟨r.rb, 0, none⟩), .string ⟨cls.toArray⟩, .string ⟨org.toArray⟩, .string ⟨ten.toArray⟩] w fun e w' => e = .returned (.tuple #[limV (limitA r.l cls org ten).1, .int .i64 (limitA r.l cls org ten).2]) ∧ WentR r r w w' :=
  (refLimit_any r.l r.rb r.v r.vB r.tm cls org ten w h.is.ref ho ht).mono fun _ _ ⟨e, hb⟩ => ⟨e, WentR.of_below h hb⟩

theorem rf_limits (r : Rf) (w : World) (h : r.At w) :
    Calls Tryz.prog 59 #[.pointer (some ⟨r.rb, 0, none⟩)] w fun e w' => e = .returned (.string ⟨(textOf r.l).toArray⟩) ∧ WentR r r w w' :=
  (refLimits_any r.l r.rb r.v r.vB r.tm w h.is.ref).mono fun _ _ ⟨e, hb⟩ => ⟨e, WentR.of_below h hb⟩

theorem rf_reload (r : Rf) (t : List UInt8) (w : World) (h : r.At w) :
    Calls Tryz.prog 58 #[.pointer (some ⟨r.rb, 0, none⟩), .string ⟨t.toArray⟩] w fun e w' => e = .returned (.tuple #[.int .i64 (readS t).2.1, .int .i64 (readS t).2.2]) ∧
      ∃ u, WentR r u w w' ∧ u.l = (readS t).1.getD r.l ∧ u.tm = r.tm ∧ u.bs = r.bs := by
  refine (refReload_any t r.rb r.v r.vB r.tm r.l w h.is.ref).mono fun _ w' ⟨e, hg, hc⟩ => ⟨e, ?_⟩
  rcases hc with ⟨h1, hb⟩ | ⟨l', v', h1, h2, h3⟩
  · exact ⟨r, WentR.of_below h hb, by rw [h1]; rfl, rfl, rfl⟩
  · have hrow : w'.ownsRow 0 183 4 r.vB r.bs.length (bkAll r.bs) := by
      refine row_of h.is.ownB fun g hgg => hg.block g (row_lt h.is.ownB hgg) ?_
      intro e2
      cases e2
      rcases h.is.ownB.2 with ⟨e1, _⟩ | ⟨g', cap', cur, e1, hb, hg2, _⟩
      · rw [e1] at hgg; cases hgg
      · rw [e1] at hgg
        cases hgg
        rw [h.is.at_] at hg2
        cases hg2
    refine ⟨{ r with v := v', l := l' }, ⟨⟨h2.at_, h2.own, hrow, h2.ok, h2.dflt, h2.low⟩, Only.grown hg (fun k e _ => by cases e; exact .inl rfl), fun k hk => ?_, rfl⟩, by rw [h1]; rfl, rfl, rfl⟩
    rcases hk with hk | hk | hk
    · exact .inl (.inl hk)
    · exact .inr (h3 k hk)
    · exact .inl (.inr (.inr hk))

theorem rf_sweep (r : Rf) (lv : Lv) (w : World) (h : r.At w) (ha : Agr lv r.bs) (hn : r.bs.length ≤ 2932031007401) :
    Calls Tryz.prog 64 #[.pointer (some ⟨r.rb, 0, none⟩)] w fun e w' => e = .returned (.int .i64 (lv.length : Nat)) ∧ WentR r r w w' :=
  (refSweep_any r.rb r.v r.vB r.tm r.l r.bs w h (by omega)).mono fun _ w' ⟨e, hb⟩ => ⟨by rw [e, ha.full], by subst hb; exact WentR.same h⟩

theorem rf_tick (r : Rf) (d : Int) (w : World) (h : r.At w) (ht : r.tm ≤ 1000000000000) (hN : r.bs.length ≤ 2932031007401) (hbs : ∀ b ∈ r.bs, b.cls < 2 ∧ b.level ≤ 1000000000000000) :
    Calls Tryz.prog 61 #[.pointer (some ⟨r.rb, 0, none⟩), .int .i64 d] w fun e w' => e = .returned (.int .i64 (tickA r.tm d : Nat)) ∧
      ∃ t, WentR r t w w' ∧ t.l = r.l ∧ t.tm = (if tickA r.tm d = 0 then r.tm + d.toNat else r.tm) ∧ t.bs = (if tickA r.tm d = 0 then r.bs.map (fall r.l d.toNat) else r.bs) := by
  unfold tickA
  by_cases hd : d < 0 ∨ 1000000000000 < (r.tm : Int) + d
  · rw [if_pos hd]
    exact (refTick_bad r.rb r.v r.vB r.tm r.l r.bs d w h ht hd).mono fun _ w' ⟨e, h1⟩ => ⟨e, r, by subst h1; exact WentR.same h, rfl, rfl, rfl⟩
  · rw [if_neg hd]
    obtain ⟨k, rfl⟩ : ∃ k : Nat, d = k := ⟨d.toNat, by omega⟩
    refine (refTick_good r.rb r.v r.vB r.tm r.l r.bs k w h (by omega) hN (fun b hb => ⟨(hbs b hb).1, by have := (hbs b hb).2; omega⟩)).mono fun _ w' ⟨e, h1, h2⟩ => ⟨e, { r with tm := r.tm + k, bs := r.bs.map (fall r.l k) }, ⟨h1, ⟨h2.os, h2.tape, h2.output, h2.size, fun x hx hn => h2.block x hx (fun e => hn (.inl e)) (fun e => hn (.inr (.inr e.symm)))⟩, fun x hx => .inl hx, rfl⟩, rfl, rfl, rfl⟩

/-- The place of a bucket: what is there now, and what is left. -/
theorem rf_bucket (r : Rf) (lv : Lv) (c : Nat) (org ten : List UInt8) (w : World) (h : r.At w) (ha : Agr lv r.bs) (hc : c < 2) (hn : r.bs.length ≤ 2932031007401) :
    Calls Tryz.prog 97 #[.pointer (some ⟨r.rb, 0, none⟩), .int .i64 c, .string ⟨org.toArray⟩, .string ⟨ten.toArray⟩] w fun e w' => ∃ (i : Nat) (t : Rf) (more : List Bk), e = .returned (.int .i64 i) ∧ WentR r t w w' ∧ t.l = r.l ∧ t.tm = r.tm ∧ t.v = r.v ∧ t.bs = r.bs ++ more ∧ more.length ≤ 1 ∧ Agr lv t.bs ∧
      t.bs[i]? = some ⟨c, org, ten, levOf lv (c, org, ten)⟩ := by
  refine (refBucket_any r.rb r.v r.vB r.tm r.l r.bs c org ten w h hn).mono fun e w' hp => ?_
  unfold BucketP at hp
  rcases bFrom_spec c org ten r.bs 0 with ⟨hf, hno⟩ | ⟨i, hi, hf, hs⟩
  · rw [hf] at hp
    obtain ⟨rfl, vB', w1, hI, hg1, hg2, hfr⟩ := hp
    have ha' := ha.more hc hno
    refine ⟨r.bs.length, { r with vB := vB', bs := r.bs ++ [⟨c, org, ten, 0⟩] }, [⟨c, org, ten, 0⟩], rfl, ⟨hI, ?_, fun k hk => ?_, rfl⟩, rfl, rfl, rfl, rfl, by simp, ha', ?_⟩
    · refine (Only.grown hg1 (fun k e _ => .inr (.inr e))).trans (Only.grown hg2 (fun k e _ => ?_)) (T := r.foot) (fun k _ hk => hk)
      cases e
      exact .inl rfl
    · rcases hk with hk | hk | hk
      · exact .inl (.inl hk)
      · exact .inl (.inr (.inl hk))
      · rcases hfr k hk with h3 | h3
        · exact .inl (.inr (.inr h3))
        · exact .inr h3
    · have hz := ha'.at_ (i := r.bs.length) (by simp)
      simp only [List.getElem_concat_length] at hz
      show (r.bs ++ [(⟨c, org, ten, 0⟩ : Bk)])[r.bs.length]? = _
      rw [List.getElem?_concat_length]
      have : levOf lv (c, org, ten) = 0 := hz.symm
      rw [this]
  · rw [Nat.zero_add] at hf
    rw [hf] at hp
    obtain ⟨rfl, rfl⟩ := hp
    refine ⟨i, r, [], rfl, WentR.same h, rfl, rfl, rfl, by simp, by simp, ha, ?_⟩
    rw [List.getElem?_eq_getElem hi]
    have h1 := ha.at_ hi
    have h2 := (sameB_iff _ _ _ _).1 hs
    rw [h2] at h1
    have h3 : r.bs[i] = ⟨r.bs[i].cls, r.bs[i].org, r.bs[i].ten, r.bs[i].level⟩ := rfl
    rw [h3, h1]
    simp only [Bk.kv, Prod.mk.injEq] at h2
    rw [h2.1, h2.2.1, h2.2.2]

theorem rf_level (r : Rf) (lv : Lv) (cls org ten : List UInt8) (w : World) (h : r.At w) (ha : Agr lv r.bs) (hn : r.bs.length ≤ 2932031007401) (ho : org.length ≤ 281474976710656) (ht : ten.length ≤ 281474976710656) :
    Calls Tryz.prog 63 #[.pointer (some ⟨r.rb, 0, none⟩), .string ⟨cls.toArray⟩, .string ⟨org.toArray⟩, .string ⟨ten.toArray⟩] w fun e w' => e = .returned (.tuple #[.int .i64 (levelA lv cls org ten).1, .int .i64 (levelA lv cls org ten).2]) ∧
      ∃ t, WentR r t w w' ∧ t.l = r.l ∧ t.tm = r.tm ∧ Agr lv t.bs ∧ t.bs.length ≤ r.bs.length + 1 := by
  obtain ⟨b1, b2⟩ := bucket_same cls org ten
  unfold levelA
  cases hb : bucketS cls org ten with
  | none =>
    rw [b1, hb]
    exact (refLevel_none r.rb cls org ten w ho ht hb).mono fun _ w' ⟨e, h1⟩ => ⟨e, r, by subst h1; exact WentR.same h, rfl, rfl, ha, by omega⟩
  | some c =>
    have hc : c < 2 := (bucketS_ok hb).1.1
    rw [b1, hb, b2 c hb]
    refine (refLevel_some r.rb r.v r.vB r.tm r.l r.bs cls org ten c w h hn ho ht hb).mono fun _ w' ⟨e, h1⟩ => ⟨by rw [e, ha.level]; rfl, ?_⟩
    unfold LevelL at h1
    rcases bFrom_spec c org ten r.bs 0 with ⟨hf, hno⟩ | ⟨i, hi, hf, hs⟩
    · rw [hf] at h1
      obtain ⟨vB', w1, hI, hg1, hg2, hfr⟩ := h1
      refine ⟨{ r with vB := vB', bs := r.bs ++ [⟨c, org, ten, 0⟩] }, ⟨hI, ?_, fun k hk => ?_, rfl⟩, rfl, rfl, ha.more hc hno, by simp⟩
      · refine (Only.grown hg1 (fun k e _ => .inr (.inr e))).trans (Only.grown hg2 (fun k e _ => ?_)) (T := r.foot) (fun k _ hk => hk)
        cases e
        exact .inl rfl
      · rcases hk with hk | hk | hk
        · exact .inl (.inl hk)
        · exact .inl (.inr (.inl hk))
        · rcases hfr k hk with h3 | h3
          · exact .inl (.inr (.inr h3))
          · exact .inr h3
    · rw [hf] at h1
      subst h1
      exact ⟨r, WentR.same h, rfl, rfl, ha, by omega⟩

theorem WentR.trans {s t u : Rf} {w w' w'' : World} (h : WentR s t w w') (h2 : WentR t u w' w'') : WentR s u w w'' := by
  refine ⟨h2.at_, h.only.trans h2.only (fun k hk ht => ?_), fun k hk => ?_, h2.rb.trans h.rb⟩
  · rcases h.foot k ht with h3 | h3
    · exact h3
    · omega
  · rcases h2.foot k hk with h3 | h3
    · exact h.foot k h3
    · exact .inr (Nat.le_trans h.only.size h3)

end Go.Proofs.YthmhfilkgggagaaGreatDoor
