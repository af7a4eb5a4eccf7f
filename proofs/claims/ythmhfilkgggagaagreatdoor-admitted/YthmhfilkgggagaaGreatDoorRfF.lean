/-
  The document's answer, for stage 2: decide.
  The document's answer, for stage 2: Admit.
-/
import Derived.Test.YthmhfilkgggagaaGreatDoorRfE
import Derived.Test.YthmhfilkgggagaaGreatDoorRfD
import Derived.Deep.CutRange
namespace Go.Proofs.YthmhfilkgggagaaGreatDoor
open Go.RowKit Go.Maps Go.Sort

/-- What goes along through decide: the document's sluice, rows of cells that no call touches, the result's block. -/
structure De (r0 : Rf) (w0 : World) (r : Rf) (bl : List (Nat × List Value)) (ob : Nat) (W : World) : Prop where
  went : WentR r0 r w0 W
  held : ∀ x ∈ bl, (∀ (j : Nat) (v : Value), x.2[j]? = some v → W.cell? ⟨x.1, j, none⟩ = some v) ∧ w0.heap.size ≤ x.1 ∧ x.1 < W.heap.size ∧ ¬ r.foot x.1
  out : W.heap[ob]? = some (.cells #[.int .i64 0, .int .i64 0, .int .i64 0] 61 (0, 0))
  low : w0.heap.size ≤ ob
  off : ¬ r.foot ob

section
variable {r0 r t : Rf} {w0 W W' : World} {bl : List (Nat × List Value)} {ob : Nat}

theorem De.lt (h : De r0 w0 r bl ob W) : ob < W.heap.size := (Array.getElem?_eq_some_iff.1 h.out).1

theorem De.call (h : De r0 w0 r bl ob W) (hw : WentR r t W W') : De r0 w0 t bl ob W' := by
  refine ⟨h.went.trans hw, fun x hx => ?_, (hw.only.block ob h.lt h.off).trans h.out, h.low, fun hk => ?_⟩
  · obtain ⟨h1, h2, h3, h4⟩ := h.held x hx
    refine ⟨fun j v hv => (hw.only.cell h3 h4).trans (h1 j v hv), h2, Nat.lt_of_lt_of_le h3 hw.only.size, fun hk => ?_⟩
    rcases hw.foot _ hk with h5 | h5
    · exact h4 h5
    · omega
  · rcases hw.foot _ hk with h5 | h5
    · exact h.off h5
    · have := h.lt; omega

theorem De.below (h : De r0 w0 r bl ob W) (hb : Below W.heap.size W W') : De r0 w0 r bl ob W' := h.call (WentR.of_below h.went.at_ hb)

theorem De.more (h : De r0 w0 r bl ob W) (cs : Array Value) (ty : TypeId) : De r0 w0 r ((W.heap.size, cs.toList) :: bl) ob (W.alloc (.cells cs ty)) := by
  have h1 := h.below (Below.alloc1 W (.cells cs ty))
  refine ⟨h1.went, fun x hx => ?_, h1.out, h1.low, h1.off⟩
  rcases List.mem_cons.1 hx with rfl | hx
  · refine ⟨fun j v hv => ?_, h.went.only.size, by simp, fun hk => ?_⟩
    · simp only [World.cell?, (MapKept.heap_alloc W (.cells cs ty)).1]
      simpa using hv
    · have := h.went.at_.lt hk
      omega
  · exact h1.held x hx

theorem De.start {w : World} (h : r.At w) (q : Array Value) (ty : TypeId) : De r w r [(w.heap.size, q.toList)] (w.heap.size + 1) ((w.alloc (.cells q ty)).alloc (.cells #[.int .i64 0, .int .i64 0, .int .i64 0] 61)) := by
  have hb := below_two w (.cells q ty) (.cells #[.int .i64 0, .int .i64 0, .int .i64 0] 61)
  refine ⟨WentR.of_below h hb, fun x hx => ?_, ?_, by omega, fun hk => ?_⟩
  · simp at hx
    subst hx
    refine ⟨fun j v hv => ?_, Nat.le_refl _, by simp; omega, fun hk => Nat.lt_irrefl _ (h.lt hk)⟩
    rw [(Below.alloc1 (w.alloc (.cells q ty)) (.cells #[.int .i64 0, .int .i64 0, .int .i64 0] 61)).cell (p := ⟨w.heap.size, j, none⟩) (by simp)]
    simp only [World.cell?, (MapKept.heap_alloc w (.cells q ty)).1]
    simpa using hv
  · have := (MapKept.heap_alloc (w.alloc (.cells q ty)) (.cells #[.int .i64 0, .int .i64 0, .int .i64 0] 61)).1
    rw [World.size_alloc] at this
    exact this
  · have := h.lt hk
    omega

theorem De.cells (h : De r0 w0 r bl ob W) : W.cell? ⟨ob, 0, none⟩ = some (.int .i64 0) ∧ W.cell? ⟨ob, 1, none⟩ = some (.int .i64 0) ∧ W.cell? ⟨ob, 2, none⟩ = some (.int .i64 0) ∧ (∀ j, W.frozen? ⟨ob, j, none⟩ = false) := by
  refine ⟨?_, ?_, ?_, fun j => ?_⟩ <;> simp [World.cell?, World.frozen?, h.out]

theorem De.done (h : De r0 w0 r bl ob W) (v0 v1 v2 : Value) : WentR r0 r w0 (((W.setCell ⟨ob, 0, none⟩ v0).setCell ⟨ob, 1, none⟩ v1).setCell ⟨ob, 2, none⟩ v2) := by
  have ho : Only (fun k => k = ob) W (((W.setCell ⟨ob, 0, none⟩ v0).setCell ⟨ob, 1, none⟩ v1).setCell ⟨ob, 2, none⟩ v2) :=
    Only.grown (((grown_set W ob 0 v0).trans (grown_set _ ob 1 v1)).trans (grown_set _ ob 2 v2)) (fun k e _ => by cases e; rfl)
  exact ⟨h.went.at_.of_only ho (fun k hk e => h.off (e ▸ hk)), h.went.only.trans ho (fun k hk e => by have := h.low; omega), h.went.foot, h.went.rb⟩

theorem De.drew (h : De r0 w0 r bl ob W) : De r0 w0 r bl ob W.drew := h.below (Below.refl _ _).drew
end

theorem Rf.At.place {r : Rf} {W : World} (h : r.At W) {i : Nat} {b : Bk} (hi : r.bs[i]? = some b) : ∃ g cap, r.vB = .slice (some ⟨g, 0, none⟩) r.bs.length cap ∧ g < W.heap.size ∧ W.cell? ⟨g, i * 4 + 3, none⟩ = some (.int .i64 b.level) ∧ W.frozen? ⟨g, i * 4 + 3, none⟩ = false ∧ W.cell? ⟨r.rb, 1, none⟩ = some (.slice (some ⟨g, 0, none⟩) r.bs.length cap) ∧ i < r.bs.length ∧ r.rb < W.heap.size := by
  obtain ⟨hlt, rfl⟩ := List.getElem?_eq_some_iff.1 hi
  obtain ⟨g, cap, hv, hg, _, _, _, h3⟩ := h.is.nth hlt
  have hc := h.is.cells.2.1
  rw [hv] at hc
  refine ⟨g, cap, hv, hg, h3, ?_, hc, hlt, h.is.lt⟩
  rcases h.is.ownB.2 with ⟨e1, _⟩ | ⟨g', cap', cur, e1, _, hgg, _⟩
  · rw [hv] at e1; cases e1
  · rw [hv] at e1; cases e1
    simp [World.frozen?, hgg]

theorem De.at {r0 r : Rf} {w0 W : World} {bl : List (Nat × List Value)} {ob : Nat} (h : De r0 w0 r bl ob W) {b : Nat} {cs : List Value} (i : Nat) (hm : bl[i]? = some (b, cs)) (j : Nat) (v : Value) (hj : cs[j]? = some v) : W.cell? ⟨b, j, none⟩ = some v := (h.held _ (List.mem_of_getElem? hm)).1 j v hj

theorem De.room {r0 r : Rf} {w0 W : World} {bl : List (Nat × List Value)} {ob : Nat} (h : De r0 w0 r bl ob W) {b : Nat} {cs : List Value} (i : Nat) (hm : bl[i]? = some (b, cs)) : b < W.heap.size := (h.held _ (List.mem_of_getElem? hm)).2.2.1

/-- A level is raised. -/
theorem WentR.raise {r : Rf} {W : World} (h : r.At W) {g cap : Nat} (hv : r.vB = .slice (some ⟨g, 0, none⟩) r.bs.length cap) {i : Nat} (hi : i < r.bs.length) (lv : Nat) :
    WentR r { r with bs := r.bs.set i { r.bs[i] with level := lv } } W (W.setCell ⟨g, i * 4 + 3, none⟩ (.int .i64 lv)) := by
  have h1 := h.is
  rw [hv] at h1
  have h2 := h1.setLevel i hi lv
  rw [← hv] at h2
  refine ⟨h2, Only.grown (grown_set W g _ _) (fun k e _ => ?_), fun k hk => .inl hk, rfl⟩
  cases e
  right; right
  rw [hv]; rfl

set_option maxRecDepth 100000 in
set_option maxHeartbeats 8000000 in
theorem refDecide_any (r : Rf) (lv : Lv) (cls org ten : List UInt8) (c cost : Nat) (w : World) (h : r.At w) (ha : Agr lv r.bs) (hfew : lv.length ≤ 64) (hpos : OkPos r.l) (hk : OkK (c, org, ten)) (hne : ten ≠ []) (hc0 : 1 ≤ cost) (hc1 : cost ≤ 1000000) (hn : r.bs.length ≤ 2932031007400) :
    Calls Tryz.prog 96 #[.pointer (some ⟨r.rb, 0, none⟩), .int .i64 c, reqV cls org ten cost] w fun e w' => e = .returned (ansV (admitS r.l lv (c, org, ten) cost).1) ∧
      ∃ t, WentR r t w w' ∧ t.l = r.l ∧ t.tm = r.tm ∧ Agr (admitS r.l lv (c, org, ten) cost).2 t.bs ∧ t.bs.length ≤ r.bs.length + 2 := by
  have hko : OkK (c, org, []) := ⟨hk.1, hk.2.1, by simp⟩
  obtain ⟨X, hX⟩ : ∃ X, X = limK r.l (c, org, []) := ⟨_, rfl⟩
  obtain ⟨Y, hY⟩ : ∃ Y, Y = limK r.l (c, org, ten) := ⟨_, rfl⟩
  obtain ⟨L1, hL1⟩ : ∃ L, L = levOf lv (c, org, []) := ⟨_, rfl⟩
  obtain ⟨L2, hL2⟩ : ∃ L, L = levOf lv (c, org, ten) := ⟨_, rfl⟩
  have hXr : X.rate ≤ 1000000 ∧ X.burst ≤ 1000000 := by rw [hX]; exact lim_rate h.is.ok _
  have hYr : Y.rate ≤ 1000000 ∧ Y.burst ≤ 1000000 := by rw [hY]; exact lim_rate h.is.ok _
  have hXp : 0 < X.rate ∧ 0 < X.burst := by rw [hX]; exact lim_pos hpos _ hko.1
  have hYp : 0 < Y.rate ∧ 0 < Y.burst := by rw [hY]; exact lim_pos hpos _ hk.1
  have hl1 : L1 ≤ 1000000000000000 := by rw [hL1]; exact levOf_le ha.ok _
  have hl2 : L2 ≤ 1000000000000000 := by rw [hL2]; exact levOf_le ha.ok _
  obtain ⟨RS, hRS⟩ : ∃ RS, RS = admitS r.l lv (c, org, ten) cost := ⟨_, rfl⟩
  rw [← hRS]
  have hR2 := hRS
  unfold admitS at hR2
  simp only [] at hR2
  rw [emptyN_two, ← hX, ← hY, ← hL1, ← hL2] at hR2
  have hc := hk.1
  obtain ⟨O, hO⟩ : ∃ O : ByteArray, O = ⟨org.toArray⟩ := ⟨_, rfl⟩
  obtain ⟨T, hT⟩ : ∃ T : ByteArray, T = ⟨ten.toArray⟩ := ⟨_, rfl⟩
  have HLX : Hid (∀ (W : World), r.At W → Calls Tryz.prog 95 #[.pointer (some ⟨r.rb, 0, none⟩), .int .i64 c, .string O, .string ⟨#[]⟩] W fun e w' => e = .returned (.agg #[.int .i64 X.rate, .int .i64 X.burst]) ∧ Below W.heap.size W w') := hide (fun W hW => by
    rw [hO, hX]; exact refLimit_in r.l r.rb r.v r.vB r.tm c org [] W hW.is.ref hc)
  have HLY : Hid (∀ (W : World), r.At W → Calls Tryz.prog 95 #[.pointer (some ⟨r.rb, 0, none⟩), .int .i64 c, .string O, .string T] W fun e w' => e = .returned (.agg #[.int .i64 Y.rate, .int .i64 Y.burst]) ∧ Below W.heap.size W w') := hide (fun W hW => by
    rw [hO, hT, hY]; exact refLimit_in r.l r.rb r.v r.vB r.tm c org ten W hW.is.ref hc)
  have HBX : Hid (∀ (W : World), r.At W → Calls Tryz.prog 97 #[.pointer (some ⟨r.rb, 0, none⟩), .int .i64 c, .string O, .string ⟨#[]⟩] W fun e w' => ∃ (i : Nat) (t : Rf) (more : List Bk), e = .returned (.int .i64 i) ∧ WentR r t W w' ∧ t.l = r.l ∧ t.tm = r.tm ∧ t.v = r.v ∧ t.bs = r.bs ++ more ∧ more.length ≤ 1 ∧ Agr lv t.bs ∧ t.bs[i]? = some ⟨c, org, [], L1⟩) := hide (fun W hW => by
    rw [hO, hL1]; exact rf_bucket r lv c org [] W hW ha hc (by omega))
  have HBY : Hid (∀ (W : World) (t : Rf), t.At W → Agr lv t.bs → t.bs.length ≤ 2932031007401 → t.rb = r.rb → Calls Tryz.prog 97 #[.pointer (some ⟨r.rb, 0, none⟩), .int .i64 c, .string O, .string T] W fun e w' => ∃ (k : Nat) (t' : Rf) (more : List Bk), e = .returned (.int .i64 k) ∧ WentR t t' W w' ∧ t'.l = t.l ∧ t'.tm = t.tm ∧ t'.v = t.v ∧ t'.bs = t.bs ++ more ∧ more.length ≤ 1 ∧ Agr lv t'.bs ∧ t'.bs[k]? = some ⟨c, org, ten, L2⟩) := hide (fun W t hW hA hN hrb => by
    rw [hO, hT, hL2, ← hrb]; exact rf_bucket t lv c org ten W hW hA hc hN)
  have HSW : Hid (∀ (W : World) (t : Rf), t.At W → Agr lv t.bs → t.bs.length ≤ 2932031007402 → t.rb = r.rb → Calls Tryz.prog 64 #[.pointer (some ⟨r.rb, 0, none⟩)] W fun e w' => e = .returned (.int .i64 (lv.length : Nat)) ∧ w' = W) := hide (fun W t hW hA hN hrb => by
    rw [← hrb]
    exact (refSweep_any t.rb t.v t.vB t.tm t.l t.bs W hW (by omega)).mono fun _ w' ⟨e, hb⟩ => ⟨by rw [e, hA.full], hb⟩)
  have HA := hide ha; have HRS := hide hRS; have HK := hide hk; have HKO := hide hko
  have HL1 := hide hL1; have HL2 := hide hL2
  have HD0 := hide (De.start h #[.string ⟨cls.toArray⟩, .string O, .string T, .int .i64 cost] 65)
  have HRB : Hid (∀ (W : World) (t : Rf), t.At W → t.rb = r.rb → r.rb < W.heap.size) := hide (fun W t hW e => by rw [← e]; exact hW.is.lt)
  show Calls Tryz.prog 96 #[.pointer (some ⟨r.rb, 0, none⟩), .int .i64 c, .agg #[.string ⟨cls.toArray⟩, .string ⟨org.toArray⟩, .string ⟨ten.toArray⟩, .int .i64 cost]] w _
  rw [← hO, ← hT]
  generalize (⟨cls.toArray⟩ : ByteArray) = C at *
  have hlen := h.is.lt
  generalize hF : lv.length = F at *
  have HFF := hide hF
  have HNE := hide hne
  clear ha hRS hk hko hL1 hL2 hO hT hX hY hF h hne
  go_enter Tryz.func96, Tryz.ntmps96
  go_wp2_with fail
  refine (unhide HLX _ (unhide HD0).went.at_).mono ?_
  rintro e w1 ⟨rfl, hb1⟩
  have HD1 := hide (((unhide HD0).below hb1).more #[.int .i64 X.rate, .int .i64 X.burst] 27)
  have hd1 := (unhide HD0).below hb1
  have q1 := hd1.at 0 rfl 1 _ rfl
  have q2 := hd1.at 0 rfl 2 _ rfl
  have hz1 : w.heap.size + 1 < w1.heap.size := hd1.lt
  have hz0 : w.heap.size < w1.heap.size := by omega
  clear hb1 hd1 HD0
  go_wp2_with fail
  refine (unhide HLY _ (unhide HD1).went.at_).mono ?_
  rintro e w2 ⟨rfl, hb2⟩
  have HD2 := hide (((unhide HD1).below hb2).more #[.int .i64 Y.rate, .int .i64 Y.burst] 27)
  clear q1 q2 hb2 HD1
  go_upto_region 3 with fail
  generalize hV2 : w2.alloc (.cells #[.int .i64 Y.rate, .int .i64 Y.burst] 27) = V2 at *
  have q3 := (unhide HD2).at 2 rfl 3 _ rfl
  have x1 := (unhide HD2).at 1 rfl 1 _ rfl
  have y1 := (unhide HD2).at 0 rfl 1 _ rfl
  have q1 := (unhide HD2).at 2 rfl 1 _ rfl
  have q2 := (unhide HD2).at 2 rfl 2 _ rfl
  obtain ⟨o0, o1, o2, of⟩ := (unhide HD2).cells
  have of0 := of 0; have of1 := of 1; have of2 := of 2
  clear of hV2
  by_cases p1 : X.burst < cost
  · have p1i : (X.burst : Int) < (cost : Int) := by omega
    rw [if_pos (.inl p1)] at hR2
    have HR := hide hR2
    clear hR2 p1
    go_wp2
    refine bodyPost_ret (v := .agg #[.int .i64 413, .int .i64 0, .int .i64 0]) (by simp [results, Tryz.results96, go_sem, o0, o1, o2]) rfl ?_
    rw [unhide HR]
    exact ⟨rfl, r, (unhide HD2).done _ _ _, rfl, rfl, unhide HA, by omega⟩
  · by_cases p2 : Y.burst < cost
    · have p1i : ¬ (X.burst : Int) < (cost : Int) := by omega
      have p2i : (Y.burst : Int) < (cost : Int) := by omega
      rw [if_pos (.inr p2)] at hR2
      have HR := hide hR2
      clear hR2 p1 p2
      go_wp2
      refine bodyPost_ret (v := .agg #[.int .i64 413, .int .i64 0, .int .i64 0]) (by simp [results, Tryz.results96, go_sem, o0, o1, o2]) rfl ?_
      rw [unhide HR]
      exact ⟨rfl, r, (unhide HD2).done _ _ _, rfl, rfl, unhide HA, by omega⟩
    · rw [if_neg (by omega)] at hR2
      have p1i : ¬ (X.burst : Int) < (cost : Int) := by omega
      have p2i : ¬ (Y.burst : Int) < (cost : Int) := by omega
      have HR := hide hR2
      have hcX : cost ≤ X.burst := by omega
      have hcY : cost ≤ Y.burst := by omega
      have HCC := hide (And.intro hcX hcY)
      clear hR2 p1 p2 hcX hcY
      go_wp2_with fail
      refine (unhide HBX _ (unhide HD2).went.at_).mono ?_
      rintro e w3 ⟨i, t1, m1, rfl, hw3, e1, e2, e3, e4, e5, hA3, hi3⟩
      have HD3 := hide ((unhide HD2).call hw3)
      have hrb3 := hw3.rb
      have hlen3 : t1.bs.length ≤ r.bs.length + 1 := by rw [e4, List.length_append]; omega
      clear q1 q2 q3 x1 y1 o0 o1 o2 of0 of1 of2 p1i p2i
      have q1 := (unhide HD3).at 2 rfl 1 _ rfl
      have q2 := (unhide HD3).at 2 rfl 2 _ rfl
      have H3 := hide (And.intro hA3 (And.intro hi3 (And.intro e1 (And.intro e2 (And.intro hrb3 hlen3)))))
      clear hw3 e1 e2 e3 e4 e5 hA3 hi3 hrb3 hlen3
      go_wp2_with fail
      refine (unhide HBY _ t1 (unhide HD3).went.at_ (unhide H3).1 (by have := (unhide H3).2.2.2.2.2; omega) (unhide H3).2.2.2.2.1).mono ?_
      rintro e w4 ⟨k, t2, m2, rfl, hw4, f1, f2, f3, f4, f5, hA4, hk4⟩
      have HD4 := hide ((unhide HD3).call hw4)
      have hrb4 : t2.rb = r.rb := hw4.rb.trans (unhide H3).2.2.2.2.1
      have hlen4 : t2.bs.length ≤ r.bs.length + 2 := by
        have := (unhide H3).2.2.2.2.2
        rw [f4, List.length_append]; omega
      have hi4 : t2.bs[i]? = some ⟨c, org, [], L1⟩ := by
        have h1 := (unhide H3).2.1
        rw [f4, List.getElem?_append_left (List.getElem?_eq_some_iff.1 h1).1]
        exact h1
      have htl : t2.l = r.l := f1.trans (unhide H3).2.2.1
      have htm : t2.tm = r.tm := f2.trans (unhide H3).2.2.2.1
      obtain ⟨g, cap, hv, hg, xi, xf, c1, hin, hrb⟩ := (unhide HD4).went.at_.place hi4
      obtain ⟨g', cap', hv', _, xk, _, _, hkn, _⟩ := (unhide HD4).went.at_.place hk4
      rw [hv] at hv'
      cases hv'
      rw [hrb4] at c1 hrb
      have H4 := hide (And.intro hA4 (And.intro hi4 (And.intro hk4 (And.intro htl (And.intro htm (And.intro hrb4 (And.intro hlen4 hv)))))))
      clear q1 q2 HD3 hw4 f1 f2 f3 f4 f5 hA4 hi4 hk4 htl htm hrb4 hlen4 hv xf
      obtain ⟨NB, hNB⟩ : ∃ NB, NB = t2.bs.length := ⟨_, rfl⟩
      rw [← hNB] at c1 hin hkn
      have HNB := hide hNB
      have hini : (i : Int) < (NB : Int) := by omega
      have hkni : (k : Int) < (NB : Int) := by omega
      obtain ⟨E1, hE1⟩ : ∃ E : Nat, E = if L1 = 0 then 1 else 0 := ⟨_, rfl⟩
      obtain ⟨E2, hE2⟩ : ∃ E : Nat, E = if L2 = 0 then 1 else 0 := ⟨_, rfl⟩
      have hR3 := unhide HR
      rw [← hE1, ← hE2] at hR3
      have HR3 := hide hR3
      have HE1 := hide hE1; have HE2 := hide hE2
      clear hNB hE1 hE2 hR3 HR
      go_upto_if 61 with fail
      go_cut [11] from 61 to 63 (fun v11 wx => v11 = .int .i64 (E1 : Nat) ∧ wx = w4)
      case first =>
        by_cases hz : L1 = 0
        · have hz' : ((L1 : Int) == 0) = true := by rw [hz]; rfl
          have HEE : Hid (E1 = 1) := hide (by rw [unhide HE1, if_pos hz])
          subst hz
          go_wp2_with fail
          go_meet
          exact ⟨by rw [unhide HEE]; rfl, rfl⟩
        · have hz' : ((L1 : Int) == 0) = false := by rw [beq_eq_false_iff_ne]; omega
          have HEE : Hid (E1 = 0) := hide (by rw [unhide HE1, if_neg hz])
          have hz2 : ¬ (L1 : Int) = 0 := by omega
          go_wp2_with fail
          go_meet
          exact ⟨by rw [unhide HEE]; rfl, rfl⟩
      case rest =>
        obtain ⟨rfl, rfl⟩ := hcut
        go_upto_if 72 with fail
        go_cut [11] from 72 to 74 (fun v11 wx => v11 = .int .i64 (E1 + E2 : Nat) ∧ wx = wc)
        case first =>
          have hE1b : E1 ≤ 1 := by rw [unhide HE1]; split <;> omega
          by_cases hz : L2 = 0
          · have hz' : ((L2 : Int) == 0) = true := by rw [hz]; rfl
            have HEE : Hid (E2 = 1) := hide (by rw [unhide HE2, if_pos hz])
            subst hz
            go_wp2_with fail
            go_meet
            exact ⟨by rw [unhide HEE]; go_num, rfl⟩
          · have hz' : ((L2 : Int) == 0) = false := by rw [beq_eq_false_iff_ne]; omega
            have HEE : Hid (E2 = 0) := hide (by rw [unhide HE2, if_neg hz])
            have hz2 : ¬ (L2 : Int) = 0 := by omega
            go_wp2_with fail
            go_meet
            exact ⟨by rw [unhide HEE]; rfl, rfl⟩
        case rest =>
          obtain ⟨rfl, rfl⟩ := hcut
          obtain ⟨E, hE⟩ : ∃ E, E = E1 + E2 := ⟨_, rfl⟩
          rw [← hE]
          have hE2b : E ≤ 2 := by
            rw [hE, unhide HE1, unhide HE2]
            split <;> split <;> omega
          have hR4 := unhide HR3
          rw [show F + (E1 + E2) = F + E by rw [hE]] at hR4
          have HR4 := hide hR4
          clear hR4 HR3 HE1 HE2 hE
          go_wp2_with fail
          refine (unhide HSW _ t2 (unhide HD4).went.at_ (unhide H4).1 (by have := (unhide H4).2.2.2.2.2.2.1; omega) (unhide H4).2.2.2.2.2.1).mono ?_
          rintro e w5 ⟨rfl, rfl⟩
          by_cases hfull : 64 < F + E
          · have hR5 := unhide HR4
            rw [if_pos hfull] at hR5
            have HR5 := hide hR5
            have g1 : (0 : Int) < (E : Int) := by omega
            have g2 : (64 : Int) < (F : Int) + (E : Int) := by omega
            obtain ⟨o0, o1, o2, of⟩ := (unhide HD4).cells
            have of0 := of 0; have of1 := of 1; have of2 := of 2
            clear hR5 HR4 hfull of
            go_wp2
            refine bodyPost_ret (v := .agg #[.int .i64 503, .int .i64 0, .int .i64 0]) (by simp [results, Tryz.results96, go_sem, o0, o1, o2]) rfl ?_
            rw [unhide HR5]
            exact ⟨rfl, t2, (unhide HD4).done _ _ _, (unhide H4).2.2.2.1, (unhide H4).2.2.2.2.1, (unhide H4).1, (unhide H4).2.2.2.2.2.2.1⟩
          · have hR5 := unhide HR4
            rw [if_neg hfull] at hR5
            have HR5 := hide hR5
            clear hR5 HR4
            go_upto_region 13 with fail
            go_cut [84] from 77 to 84 (fun v84 wx => v84 = .bool false ∧ wx = w5)
            case first =>
              by_cases hz : 0 < E
              · have g1 : (0 : Int) < (E : Int) := by omega
                have g2 : ¬ (64 : Int) < (F : Int) + (E : Int) := by omega
                clear hfull
                go_wp2_with fail
                go_meet
                exact ⟨rfl, rfl⟩
              · have g1 : ¬ (0 : Int) < (E : Int) := by omega
                clear hfull hz
                go_wp2_with fail
                go_meet
                exact ⟨rfl, rfl⟩
            case rest =>
              obtain ⟨rfl, rfl⟩ := hcut
              have q3 := (unhide HD4).at 2 rfl 3 _ rfl
              have x0 := (unhide HD4).at 1 rfl 0 _ rfl
              have x1 := (unhide HD4).at 1 rfl 1 _ rfl
              have hq5 := (unhide HD4).room 2 rfl
              have hx5 := (unhide HD4).room 1 rfl
              have HXY := hide (And.intro hXr (And.intro hYr (And.intro hXp hYp)))
              go_wp2_with fail
              refine dec_reg15 _ _ _ _ _ _ _ _ _ _ _ _ _ _ _ _ _ _ _ _ _ _ _ _ _ _ _ _ _ _ _ _ _ _ _ _ _ _ _ _ _ _ _ _ _ _ _ _ _ _ _ _ _ _ _ _ _ _ _ _ _ _ _ _ _ _ _ _ _ _ _ _ _ _ _ _ _ _ _ _ _ _ _ _ _ _ _ _ _ _ _ _ _ _ _ _ _ _ _ _ _ _ _ _ _ _ _ _ _ _ _ _ _ _ _ _ _ _ _ _ _ _ _ _ _ _ _ _ _ _ _ _ _ _ _ _ _ _ _ _ _ _ _ _ _ _ _ _ _ _ _ _ _ _ _ _ _ _ _ _ _  r.rb w.heap.size w1.heap.size g NB cap i L1 X.rate X.burst cost _ hin (by omega) hXp.1 hXr.1 hXr.2 (unhide HCC).1 c1 xi q3 x0 x1 hrb hg hq5 hx5 _ ?_
              intro v86 v87 v88 v89 v90 v91 v92 v93 v94 v95 v96 v97 W6 hb6
              have HD6 := hide ((unhide HD4).below hb6)
              have c1' := (hb6.cell (p := ⟨r.rb, 1, none⟩) hrb).trans c1
              have xk' := (hb6.cell (p := ⟨g, k * 4 + 3, none⟩) hg).trans xk
              have hs6 := hb6.size
              clear c1 xk xi q3 x0 x1 hq5 hx5 hb6 HD4
              have q3 := (unhide HD6).at 2 rfl 3 _ rfl
              have y0 := (unhide HD6).at 0 rfl 0 _ rfl
              have y1 := (unhide HD6).at 0 rfl 1 _ rfl
              have hq6 := (unhide HD6).room 2 rfl
              have hy6 := (unhide HD6).room 0 rfl
              go_wp2_with fail
              refine dec_reg16 _ _ _ _ _ _ _ _ _ _ _ _ _ _ _ _ _ _ _ _ _ _ _ _ _ _ _ _ _ _ _ _ _ _ _ _ _ _ _ _ _ _ _ _ _ _ _ _ _ _ _ _ _ _ _ _ _ _ _ _ _ _ _ _ _ _ _ _ _ _ _ _ _ _ _ _ _ _ _ _ _ _ _ _ _ _ _ _ _ _ _ _ _ _ _ _ _ _ _ _ _ _ _ _ _ _ _ _ _ _ _ _ _ _ _ _ _ _ _ _ _ _ _ _ _ _ _ _ _ _ _ _ _ _ _ _ _ _ _ _ _ _ _ _ _ _ _ _ _ _ _ _ _ _ _ _ _ _ _ _ _  r.rb w.heap.size w2.heap.size g NB cap k L2 Y.rate Y.burst cost _ hkn (by omega) hYp.1 hYr.1 hYr.2 (unhide HCC).2 c1' xk' q3 y0 y1 (by omega) (by omega) hq6 hy6 _ ?_
              intro v98 v99 v100 v101 v102 v103 v104 v105 v106 v107 v108 v109 W7 hb7
              have HD7 := hide ((unhide HD6).below hb7)
              have hp3 : waitS L1 X.rate X.burst cost ≤ 3000000000000000 := waitV_le hl1 hc1 hXp.1 hXr.1
              have hq3 : waitS L2 Y.rate Y.burst cost ≤ 3000000000000000 := waitV_le hl2 hc1 hYp.1 hYr.1
              have hR6 := unhide HR5
              obtain ⟨p, hp⟩ : ∃ p, p = waitS L1 X.rate X.burst cost := ⟨_, rfl⟩
              obtain ⟨q, hq⟩ : ∃ q, q = waitS L2 Y.rate Y.burst cost := ⟨_, rfl⟩
              rw [show waitV L1 X.rate X.burst cost = p from hp.symm, show waitV L2 Y.rate Y.burst cost = q from hq.symm] at hR6
              rw [← hp] at hp3
              rw [← hq] at hq3
              rw [← hp, ← hq]
              have HR6 := hide hR6; have HPQ := hide (And.intro hp hq)
              clear hR6 HR5 hp hq c1' xk' q3 y0 y1 hq6 hy6 hb7 HD6
              go_upto_if 112 with fail
              go_cut [13] from 112 to 113 (fun v13 wx => v13 = .int .i64 (max p q : Nat) ∧ wx = W7)
              case first =>
                by_cases hz : p < q
                · have g1 : (p : Int) < (q : Int) := by omega
                  have HMX : Hid (max p q = q) := hide (Nat.max_eq_right (Nat.le_of_lt hz))
                  go_wp2_with fail
                  go_meet
                  exact ⟨by rw [unhide HMX], rfl⟩
                · have g1 : ¬ (p : Int) < (q : Int) := by omega
                  have HMX : Hid (max p q = p) := hide (Nat.max_eq_left (by omega))
                  go_wp2_with fail
                  go_meet
                  exact ⟨by rw [unhide HMX], rfl⟩
              case rest =>
                obtain ⟨rfl, rfl⟩ := hcut
                have hM3 : max p q ≤ 3000000000000000 := by omega
                have hR7 := unhide HR6
                have hM0 : max p q = 0 → p = 0 ∧ q = 0 := by omega
                have HM0 := hide hM0
                generalize max p q = M at *
                have HR7 := hide hR7
                clear hR7 HR6 hM0 hp3 hq3
                by_cases hM : 0 < M
                · have hR8 := unhide HR7
                  rw [if_pos hM] at hR8
                  have HR8 := hide hR8
                  have gM : (0 : Int) < (M : Int) := by omega
                  obtain ⟨D, hD⟩ : ∃ D, D = M / 1000000000 := ⟨_, rfl⟩
                  obtain ⟨Z, hZ⟩ : ∃ Z, Z = M % 1000000000 := ⟨_, rfl⟩
                  have d1 : (M : Int) / 1000000000 = (D : Int) := by omega
                  have d2 : (M : Int).tdiv 1000000000 = (D : Int) := by rw [Int.tdiv_eq_ediv_of_nonneg (by omega)]; exact d1
                  have d3 : (M : Int) % 1000000000 = (Z : Int) := by omega
                  have d4 : (M : Int).tmod 1000000000 = (Z : Int) := by rw [Int.tmod_eq_emod_of_nonneg (by omega)]; exact d3
                  have hDb : D ≤ 3000000 := by omega
                  obtain ⟨o0, o1, o2, of⟩ := (unhide HD7).cells
                  have of0 := of 0; have of1 := of 1; have of2 := of 2
                  have HDZ := hide (And.intro hD hZ)
                  clear hR8 HR7 of hD hZ
                  by_cases hz : 0 < Z
                  · have g1 : (0 : Int) < (Z : Int) := by omega
                    have he : Hid ((M + 1000000000 - 1) / 1000000000 = D + 1) := hide (by have := unhide HDZ; omega)
                    clear hM hz
                    go_wp2
                    refine bodyPost_ret (v := .agg #[.int .i64 429, .int .i64 M, .int .i64 ((D : Int) + 1)]) (by simp [results, Tryz.results96, go_sem, o0, o1, o2]) rfl ?_
                    rw [unhide HR8]
                    refine ⟨?_, t2, (unhide HD7).done _ _ _, (unhide H4).2.2.2.1, (unhide H4).2.2.2.2.1, (unhide H4).1, (unhide H4).2.2.2.2.2.2.1⟩
                    simp only [ansV]
                    rw [unhide he]
                    rfl
                  · have g1 : ¬ (0 : Int) < (Z : Int) := by omega
                    have he : Hid ((M + 1000000000 - 1) / 1000000000 = D) := hide (by have := unhide HDZ; omega)
                    clear hM hz
                    go_wp2
                    refine bodyPost_ret (v := .agg #[.int .i64 429, .int .i64 M, .int .i64 D]) (by simp [results, Tryz.results96, go_sem, o0, o1, o2]) rfl ?_
                    rw [unhide HR8]
                    refine ⟨?_, t2, (unhide HD7).done _ _ _, (unhide H4).2.2.2.1, (unhide H4).2.2.2.2.1, (unhide H4).1, (unhide H4).2.2.2.2.2.2.1⟩
                    simp only [ansV]
                    rw [unhide he]
                    rfl
                · have hR8 := unhide HR7
                  rw [if_neg hM] at hR8
                  have HR8 := hide hR8
                  have gM : ¬ (0 : Int) < (M : Int) := by omega
                  obtain ⟨hp0, hq0⟩ := unhide HM0 (by omega)
                  have hwp := wait_zero hXp.1 (show waitV L1 X.rate X.burst cost = 0 from (unhide HPQ).1.symm.trans hp0)
                  have hwq := wait_zero hYp.1 (show waitV L2 Y.rate Y.burst cost = 0 from (unhide HPQ).2.symm.trans hq0)
                  obtain ⟨hA4, hi4, hk4, htl, htm, hrb4, hlen4, hv⟩ := unhide H4
                  obtain ⟨hin4, hie⟩ := List.getElem?_eq_some_iff.1 hi4
                  obtain ⟨hkn4, hke⟩ := List.getElem?_eq_some_iff.1 hk4
                  have hik : i ≠ k := by
                    rintro rfl
                    rw [hi4] at hk4
                    have := congrArg (fun x : Option Bk => x.map (·.ten)) hk4
                    simp at this
                    exact unhide HNE this
                  obtain ⟨T3, hT3⟩ : ∃ T3 : Rf, T3 = { t2 with bs := t2.bs.set i { t2.bs[i] with level := L1 + cost * 1000000000 } } := ⟨_, rfl⟩
                  have hk3 : T3.bs[k]? = some ⟨c, org, ten, L2⟩ := by
                    rw [hT3]
                    show (t2.bs.set i _)[k]? = _
                    rw [List.getElem?_set_ne hik]
                    exact hk4
                  have hv3 : T3.vB = .slice (some ⟨g, 0, none⟩) T3.bs.length cap := by
                    rw [hT3, hv]
                    simp
                  have hrb3 : T3.rb = r.rb := by rw [hT3]; exact hrb4
                  have hl3 : T3.l = r.l := by rw [hT3]; exact htl
                  have hm3 : T3.tm = r.tm := by rw [hT3]; exact htm
                  have hln3 : T3.bs.length = t2.bs.length := by rw [hT3]; simp
                  have ok1 : OkV (putV lv (c, org, []) (L1 + cost * 1000000000)) := hA4.ok.put (unhide HKO) (by omega) (by omega)
                  have hA5 : Agr (putV lv (c, org, []) (L1 + cost * 1000000000)) T3.bs := by
                    rw [hT3]
                    exact hA4.put hin4 _ _ (by rw [hie]; rfl) ok1
                  have ok2 : OkV (putV (putV lv (c, org, []) (L1 + cost * 1000000000)) (c, org, ten) (L2 + cost * 1000000000)) := ok1.put (unhide HK) (by omega) (by omega)
                  obtain ⟨hkn3, hke3⟩ := List.getElem?_eq_some_iff.1 hk3
                  have hA6 : Agr (putV (putV lv (c, org, []) (L1 + cost * 1000000000)) (c, org, ten) (L2 + cost * 1000000000)) (T3.bs.set k { T3.bs[k] with level := L2 + cost * 1000000000 }) :=
                    hA5.put hkn3 _ _ (by rw [hke3]; rfl) ok2
                  have hfin : RS = ((204, 0, 0), putV (putV lv (c, org, []) (L1 + cost * 1000000000)) (c, org, ten) (L2 + cost * 1000000000)) := by
                    rw [unhide HR8]
                  have hdX : ∀ W : World, De r w t2 [(w2.heap.size, [.int .i64 Y.rate, .int .i64 Y.burst]), (w1.heap.size, [.int .i64 X.rate, .int .i64 X.burst]), (w.heap.size, [.string C, .string O, .string T, .int .i64 cost])] (w.heap.size + 1) W → De r w T3 [(w2.heap.size, [.int .i64 Y.rate, .int .i64 Y.burst]), (w1.heap.size, [.int .i64 X.rate, .int .i64 X.burst]), (w.heap.size, [.string C, .string O, .string T, .int .i64 cost])] (w.heap.size + 1) (W.setCell ⟨g, i * 4 + 3, none⟩ (.int .i64 (L1 + cost * 1000000000 : Nat))).drew := by
                    intro W hW
                    rw [hT3]
                    exact (hW.call (WentR.raise hW.went.at_ hv hin4 _)).drew
                  obtain ⟨T4, hT4⟩ : ∃ T4 : Rf, T4 = { T3 with bs := T3.bs.set k { T3.bs[k] with level := L2 + cost * 1000000000 } } := ⟨_, rfl⟩
                  have hdY : ∀ W : World, De r w T3 [(w2.heap.size, [.int .i64 Y.rate, .int .i64 Y.burst]), (w1.heap.size, [.int .i64 X.rate, .int .i64 X.burst]), (w.heap.size, [.string C, .string O, .string T, .int .i64 cost])] (w.heap.size + 1) W → De r w T4 [(w2.heap.size, [.int .i64 Y.rate, .int .i64 Y.burst]), (w1.heap.size, [.int .i64 X.rate, .int .i64 X.burst]), (w.heap.size, [.string C, .string O, .string T, .int .i64 cost])] (w.heap.size + 1) (W.setCell ⟨g, k * 4 + 3, none⟩ (.int .i64 (L2 + cost * 1000000000 : Nat))).drew := by
                    intro W hW
                    rw [hT4]
                    exact (hW.call (WentR.raise hW.went.at_ hv3 hkn3 _)).drew
                  have hend : T4.l = r.l ∧ T4.tm = r.tm ∧ Agr (putV (putV lv (c, org, []) (L1 + cost * 1000000000)) (c, org, ten) (L2 + cost * 1000000000)) T4.bs ∧ T4.bs.length ≤ r.bs.length + 2 := by
                    rw [hT4]
                    refine ⟨hl3, hm3, hA6, ?_⟩
                    simp only [List.length_set]
                    omega
                  have HFIN := hide (And.intro hfin hend)
                  have HDX := hide hdX; have HDY := hide hdY
                  have HK3 := hide (And.intro hk3 (And.intro hv3 (And.intro hrb3 hln3)))
                  obtain ⟨g', cap', hv', _, xi, xf, c1, _, _⟩ := (unhide HD7).went.at_.place hi4
                  rw [hv] at hv'
                  cases hv'
                  rw [hrb4, ← unhide HNB] at c1
                  have q3 := (unhide HD7).at 2 rfl 3 _ rfl
                  clear hl3 hm3 hR8 HR7 HR8 hp0 hq0 hA4 hi4 hk4 htl htm hrb4 hlen4 hv hie hke hik hT3 hk3 hv3 hrb3 hln3 ok1 hA5 ok2 hke3 hA6 hfin hdX hT4 hdY hend hwp hwq hM
                  go_wp2_with fail
                  refine dec_reg24 _ _ _ _ _ _ _ _ _ _ _ _ _ _ _ _ _ _ _ _ _ _ _ _ _ _ _ _ _ _ _ _ _ _ _ _ _ _ _ _ _ _ _ _ _ _ _ _ _ _ _ _ _ _ _ _ _ _ _ _ _ _ _ _ _ _ _ _ _ _ _ _ _ _ _ _ _ _ _ _ _ _ _ _ _ _ _ _ _ _ _ _ _ _ _ _ _ _ _ _ _ _ _ _ _ _ _ _ _ _ _ _ _ _ _ _ _ _ _ _ _ _ _ _ _ _ _ _ _ _ _ _ _ _ _ _ _ _ _ _ _ _ _ _ _ _ _ _ _ _ _ _ _ _ _ _ _ _ _ _ _ _  r.rb w.heap.size g NB cap i L1 cost _ hin (by omega) hc1 c1 xi xf q3 _ ?_
                  intro v126 v127 v128 v129 v130 v131 v132 v133 v134 v135 v136 v137 v138 v139 v140 v141 v142 v143 v144
                  have HD8 := hide (unhide HDX _ (unhide HD7))
                  generalize (wc.setCell ⟨g, i * 4 + 3, none⟩ (.int .i64 (L1 + cost * 1000000000 : Nat))).drew = W8 at *
                  clear c1 xi xf q3 HD7
                  obtain ⟨g', cap', hv', _, xk, xf, c1, _, _⟩ := (unhide HD8).went.at_.place (unhide HK3).1
                  rw [(unhide HK3).2.1] at hv'
                  cases hv'
                  rw [(unhide HK3).2.2.1, (unhide HK3).2.2.2, ← unhide HNB] at c1
                  have q3 := (unhide HD8).at 2 rfl 3 _ rfl
                  go_wp2_with fail
                  refine dec_reg25 _ _ _ _ _ _ _ _ _ _ _ _ _ _ _ _ _ _ _ _ _ _ _ _ _ _ _ _ _ _ _ _ _ _ _ _ _ _ _ _ _ _ _ _ _ _ _ _ _ _ _ _ _ _ _ _ _ _ _ _ _ _ _ _ _ _ _ _ _ _ _ _ _ _ _ _ _ _ _ _ _ _ _ _ _ _ _ _ _ _ _ _ _ _ _ _ _ _ _ _ _ _ _ _ _ _ _ _ _ _ _ _ _ _ _ _ _ _ _ _ _ _ _ _ _ _ _ _ _ _ _ _ _ _ _ _ _ _ _ _ _ _ _ _ _ _ _ _ _ _ _ _ _ _ _ _ _ _ _ _ _ _  r.rb w.heap.size g NB cap k L2 cost _ hkn (by omega) hc1 c1 xk xf q3 _ ?_
                  intro v145 v146 v147 v148 v149 v150 v151 v152 v153 v154 v155 v156 v157 v158 v159 v160 v161 v162 v163
                  have HD9 := hide (unhide HDY _ (unhide HD8))
                  generalize (W8.setCell ⟨g, k * 4 + 3, none⟩ (.int .i64 (L2 + cost * 1000000000 : Nat))).drew = W9 at *
                  clear c1 xk xf q3 HD8
                  obtain ⟨o0, o1, o2, of⟩ := (unhide HD9).cells
                  have of0 := of 0; have of1 := of 1; have of2 := of 2
                  clear of
                  go_wp2
                  refine bodyPost_ret (v := .agg #[.int .i64 204, .int .i64 0, .int .i64 0]) (by simp [results, Tryz.results96, go_sem, o0, o1, o2]) rfl ?_
                  rw [(unhide HFIN).1]
                  exact ⟨rfl, T4, (unhide HD9).done _ _ _, (unhide HFIN).2.1, (unhide HFIN).2.2.1, (unhide HFIN).2.2.2.1, (unhide HFIN).2.2.2.2⟩

end Go.Proofs.YthmhfilkgggagaaGreatDoor

namespace Go.Proofs.YthmhfilkgggagaaGreatDoor
open Go.RowKit Go.Maps Go.Sort

set_option maxRecDepth 100000 in
set_option maxHeartbeats 4000000 in
theorem refAdmit_name (r : Rf) (cls org ten : List UInt8) (cost : Int) (w : World) (h : r.At w) (ho : org.length ≤ 281474976710656) (ht : ten.length ≤ 281474976710656) (hb : bucketS cls org ten = none ∨ ten = []) :
    Calls Tryz.prog 62 #[.pointer (some ⟨r.rb, 0, none⟩), reqV cls org ten cost] w fun e w' => e = .returned (.tuple #[ansV (0, 0, 0), .int .i64 5]) ∧ WentR r r w w' := by
  have hnm := fun W => named_any cls org ten W ho ht
  have HD0 := hide (De.start h #[.string ⟨cls.toArray⟩, .string ⟨org.toArray⟩, .string ⟨ten.toArray⟩, .int .i64 cost] 65)
  unfold reqV
  cases hbs : bucketS cls org ten with
  | none =>
    have en : namedV cls org ten = .tuple #[.int .i64 0, .int .i64 5] := by unfold namedV; rw [hbs]
    rw [en] at hnm
    have HNM := hide hnm
    clear hnm en hbs hb h
    go_enter Tryz.func62, Tryz.ntmps62
    go_wp2_with fail
    refine (unhide HNM _).mono ?_
    rintro e w1 ⟨rfl, rfl⟩
    go_wp2
    refine bodyPost_ret (v := .tuple #[.agg #[.int .i64 0, .int .i64 0, .int .i64 0], .int .i64 5]) (by simp [results, Tryz.results62, go_sem]) rfl ⟨rfl, ?_⟩
    exact (unhide HD0).went
  | some c =>
    have hten : ten = [] := by
      rcases hb with h1 | h1
      · rw [hbs] at h1; cases h1
      · exact h1
    subst hten
    have en : namedV cls org [] = .tuple #[.int .i64 c, .int .i64 0] := by unfold namedV; rw [hbs]
    rw [en] at hnm
    have HNM := hide hnm
    clear hnm en hbs hb h
    go_enter Tryz.func62, Tryz.ntmps62
    go_wp2_with fail
    refine (unhide HNM _).mono ?_
    rintro e w1 ⟨rfl, rfl⟩
    go_wp2
    refine bodyPost_ret (v := .tuple #[.agg #[.int .i64 0, .int .i64 0, .int .i64 0], .int .i64 5]) (by simp [results, Tryz.results62, go_sem]) rfl ⟨rfl, ?_⟩
    exact (unhide HD0).went

set_option maxRecDepth 100000 in
set_option maxHeartbeats 4000000 in
theorem refAdmit_range (r : Rf) (cls org ten : List UInt8) (c : Nat) (cost : Int) (w : World) (h : r.At w) (ho : org.length ≤ 281474976710656) (ht : ten.length ≤ 281474976710656) (hbs : bucketS cls org ten = some c) (hne : ten ≠ []) (h1 : cost < 1 ∨ 1000000 < cost) :
    Calls Tryz.prog 62 #[.pointer (some ⟨r.rb, 0, none⟩), reqV cls org ten cost] w fun e w' => e = .returned (.tuple #[ansV (0, 0, 0), .int .i64 4]) ∧ WentR r r w w' := by
  have hnm := fun W => named_any cls org ten W ho ht
  have HD0 := hide (De.start h #[.string ⟨cls.toArray⟩, .string ⟨org.toArray⟩, .string ⟨ten.toArray⟩, .int .i64 cost] 65)
  unfold reqV
  have en : namedV cls org ten = .tuple #[.int .i64 c, .int .i64 0] := by unfold namedV; rw [hbs]
  rw [en] at hnm
  have HNM := hide hnm
  have hten : ten.isEmpty = false := by cases ten <;> simp at hne ⊢
  clear hnm en hbs h
  by_cases h2 : cost < 1
  · clear h1
    go_enter Tryz.func62, Tryz.ntmps62
    go_wp2_with fail
    refine (unhide HNM _).mono ?_
    rintro e w1 ⟨rfl, rfl⟩
    go_wp2
    refine bodyPost_ret (v := .tuple #[.agg #[.int .i64 0, .int .i64 0, .int .i64 0], .int .i64 4]) (by simp [results, Tryz.results62, go_sem]) rfl ⟨rfl, ?_⟩
    exact (unhide HD0).went
  · have h3 : (1000000 : Int) < cost := by omega
    clear h1
    go_enter Tryz.func62, Tryz.ntmps62
    go_wp2_with fail
    refine (unhide HNM _).mono ?_
    rintro e w1 ⟨rfl, rfl⟩
    go_wp2
    refine bodyPost_ret (v := .tuple #[.agg #[.int .i64 0, .int .i64 0, .int .i64 0], .int .i64 4]) (by simp [results, Tryz.results62, go_sem]) rfl ⟨rfl, ?_⟩
    exact (unhide HD0).went

set_option maxRecDepth 100000 in
set_option maxHeartbeats 4000000 in
theorem refAdmit_good (r : Rf) (lv : Lv) (cls org ten : List UInt8) (c k : Nat) (w : World) (h : r.At w) (ha : Agr lv r.bs) (hfew : lv.length ≤ 64) (hpos : OkPos r.l) (hn : r.bs.length ≤ 2932031007400) (ho : org.length ≤ 281474976710656) (ht : ten.length ≤ 281474976710656) (hbs : bucketS cls org ten = some c) (hne : ten ≠ []) (h0 : 1 ≤ k) (h1 : k ≤ 1000000) :
    Calls Tryz.prog 62 #[.pointer (some ⟨r.rb, 0, none⟩), reqV cls org ten (k : Int)] w fun e w' => e = .returned (.tuple #[ansV (admitS r.l lv (c, org, ten) k).1, .int .i64 0]) ∧
      ∃ t, WentR r t w w' ∧ t.l = r.l ∧ t.tm = r.tm ∧ Agr (admitS r.l lv (c, org, ten) k).2 t.bs ∧ t.bs.length ≤ r.bs.length + 2 := by
  have hnm := fun W => named_any cls org ten W ho ht
  have hk : OkK (c, org, ten) := (bucketS_ok hbs).1
  have HDC := hide (fun W (hW : r.At W) => refDecide_any r lv cls org ten c k W hW ha hfew hpos hk hne h0 h1 hn)
  have HD0 := hide (De.start h #[.string ⟨cls.toArray⟩, .string ⟨org.toArray⟩, .string ⟨ten.toArray⟩, .int .i64 (k : Int)] 65)
  unfold reqV
  have en : namedV cls org ten = .tuple #[.int .i64 c, .int .i64 0] := by unfold namedV; rw [hbs]
  rw [en] at hnm
  have HNM := hide hnm
  have hten : ten.isEmpty = false := by cases ten <;> simp at hne ⊢
  have h2 : ¬ (k : Int) < 1 := by omega
  have h3 : ¬ (1000000 : Int) < (k : Int) := by omega
  obtain ⟨RS, hRS⟩ : ∃ RS, RS = admitS r.l lv (c, org, ten) k := ⟨_, rfl⟩
  rw [← hRS] at HDC ⊢
  obtain ⟨⟨R1, R2, R3⟩, LV⟩ := RS
  clear hnm en hbs h hRS ha hk
  unfold ansV at HDC ⊢
  simp only [] at HDC ⊢
  go_enter Tryz.func62, Tryz.ntmps62
  go_wp2_with fail
  refine (unhide HNM _).mono ?_
  rintro e w1 ⟨rfl, rfl⟩
  go_wp2_with fail
  refine (unhide HDC _ (unhide HD0).went.at_).mono ?_
  rintro e w2 ⟨rfl, t, hw, g1, g2, g3, g4⟩
  have hd := (unhide HD0).call hw
  have HD1 := hide hd
  obtain ⟨o0, o1, o2, of⟩ := hd.cells
  have of0 := of 0; have of1 := of 1; have of2 := of 2
  have hz1 : w.heap.size + 1 < w2.heap.size := hd.lt
  have n5 : ¬ w.heap.size + 1 = w2.heap.size := by omega
  have n6 : ¬ w2.heap.size = w.heap.size + 1 := by omega
  have HG := hide (And.intro g1 (And.intro g2 (And.intro g3 g4)))
  clear hd hw g1 g2 g3 g4 of
  go_wp2
  refine bodyPost_ret (v := .tuple #[.agg #[.int .i64 R1, .int .i64 R2, .int .i64 R3], .int .i64 0]) (by simp [results, Tryz.results62, go_sem, o0, o1, o2, hz1]) rfl ⟨rfl, t, ?_, unhide HG⟩
  exact ((unhide HD1).done _ _ _).trans (WentR.of_below ((unhide HD1).done _ _ _).at_ (Below.alloc1 _ _))

theorem rf_admit (r : Rf) (lv : Lv) (cls org ten : List UInt8) (cost : Int) (w : World) (h : r.At w) (ha : Agr lv r.bs) (hfew : lv.length ≤ 64) (hpos : OkPos r.l) (hn : r.bs.length ≤ 2932031007400) (ho : org.length ≤ 281474976710656) (ht : ten.length ≤ 281474976710656) :
    Calls Tryz.prog 62 #[.pointer (some ⟨r.rb, 0, none⟩), reqV cls org ten cost] w fun e w' => e = .returned (.tuple #[ansV (admA r.l lv cls org ten cost).1.1, .int .i64 (admA r.l lv cls org ten cost).1.2]) ∧
      ∃ t, WentR r t w w' ∧ t.l = r.l ∧ t.tm = r.tm ∧ Agr (admA r.l lv cls org ten cost).2 t.bs ∧ t.bs.length ≤ r.bs.length + 2 := by
  obtain ⟨b1, b2⟩ := bucket_same cls org ten
  unfold admA
  cases hbs : bucketS cls org ten with
  | none =>
    rw [if_pos (.inl (by rw [b1, hbs]; rfl))]
    exact (refAdmit_name r cls org ten cost w h ho ht (.inl hbs)).mono fun _ _ ⟨e, h1⟩ => ⟨e, r, h1, rfl, rfl, ha, by omega⟩
  | some c =>
    by_cases hten : ten = []
    · rw [if_pos (.inr hten)]
      exact (refAdmit_name r cls org ten cost w h ho ht (.inr hten)).mono fun _ _ ⟨e, h1⟩ => ⟨e, r, h1, rfl, rfl, ha, by omega⟩
    · rw [if_neg (by rw [b1, hbs]; simp [hten]), b2 c hbs]
      by_cases hc : cost < 1 ∨ 1000000 < cost
      · rw [if_pos hc]
        exact (refAdmit_range r cls org ten c cost w h ho ht hbs hten hc).mono fun _ _ ⟨e, h1⟩ => ⟨e, r, h1, rfl, rfl, ha, by omega⟩
      · rw [if_neg hc]
        obtain ⟨k, rfl⟩ : ∃ k : Nat, cost = k := ⟨cost.toNat, by omega⟩
        exact refAdmit_good r lv cls org ten c k w h ha hfew hpos hn ho ht hbs hten (by omega) (by omega)

end Go.Proofs.YthmhfilkgggagaaGreatDoor
