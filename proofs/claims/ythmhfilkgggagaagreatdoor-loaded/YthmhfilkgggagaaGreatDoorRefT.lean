/-
  The document's answer, for stage 2: Tick: the statement that looks the limit up.
-/
import Derived.Test.YthmhfilkgggagaaGreatDoorRfC
import Derived.Test.YthmhfilkgggagaaGreatDoorLevB
namespace Go.Proofs.YthmhfilkgggagaaGreatDoor
open Go.RowKit Go.Maps Go.Sort

/-- A region of a body by its number. -/
noncomputable def codeOf (k : Nat) : Code → Option Code
  | .region i ops d => bif Nat.beq i k then some (.region i ops d) else none
  | .seq a b => match codeOf k a with
    | some c => some c
    | none => codeOf k b
  | .cond _ a b => match codeOf k a with
    | some c => some c
    | none => codeOf k b
  | .block _ b => codeOf k b
  | .loop b => codeOf k b
  | .scope b => codeOf k b
  | _ => none

noncomputable def tickReg (k : Nat) : Code := (codeOf k (Tryz.f61.body.getD .skip)).getD .skip

theorem two_set {W w1 : World} {n b : Nat} {x y : Value} (h : Below n W w1) (t : Two w1 b x y) (hb : n ≤ b) (a c : Value) :
    Below n W ((w1.setCell ⟨b, 0, none⟩ a).setCell ⟨b, 1, none⟩ c) ∧ b < ((w1.setCell ⟨b, 0, none⟩ a).setCell ⟨b, 1, none⟩ c).heap.size ∧
      ((w1.setCell ⟨b, 0, none⟩ a).setCell ⟨b, 1, none⟩ c).cell? ⟨b, 0, none⟩ = some a ∧ ((w1.setCell ⟨b, 0, none⟩ a).setCell ⟨b, 1, none⟩ c).cell? ⟨b, 1, none⟩ = some c := by
  obtain ⟨h0, h1, f0, f1, hn⟩ := t
  refine ⟨(h.setCell (p := ⟨b, 0, none⟩) hb a).setCell (p := ⟨b, 1, none⟩) hb c, by simpa [World.setCell] using hn, ?_, ?_⟩
  · rw [World.cell?_setCell_other _ ⟨b, 1, none⟩ ⟨b, 0, none⟩ _ (by simp)]
    exact World.cell?_setCell_same w1 ⟨b, 0, none⟩ a h0
  · exact World.cell?_setCell_same _ ⟨b, 1, none⟩ c ((World.cell?_setCell_other _ ⟨b, 0, none⟩ ⟨b, 1, none⟩ _ (by simp)).trans h1)

set_option maxRecDepth 100000 in
set_option maxHeartbeats 8000000 in
theorem tick_reg8 (u1 u2 u3 u4 u5 u7 u8 u9 u10 u11 u12 u13 u14 u15 u16 u17 u18 u19 u20 u21 u22 u23 u24 u25 u26 u27 u28 u29 u30 u31 u32 u33 u34 u35 u36 u37 u38 u39 u40 u41 u42 u43 u44 u45 u46 u47 u48 u49 u50 u51 u52 u53 u54 u55 u56 u57 u58 u59 u60 u61 u62 u63 u64 u65 u66 u67 u68 u69 u70 u71 u72 u73 u74 u75 u76 u77 u78 u79 u80 : Value) (rb g i cls : Nat) (v vB : Value) (tm : Nat) (l : List (Sl.Subj × Sl.Lim)) (bs : List Bk) (org ten : List UInt8) (W : World) (M : Sl.Lim) (hM : M = limitS l cls org ten) (hI : IsRefB W rb v vB tm l bs) (hcls : cls < 2)
    (x0 : W.cell? ⟨g, i * 4, none⟩ = some (.int .i64 cls)) (x1 : W.cell? ⟨g, i * 4 + 1, none⟩ = some (.string ⟨org.toArray⟩)) (x2 : W.cell? ⟨g, i * 4 + 2, none⟩ = some (.string ⟨ten.toArray⟩)) (hg : g < W.heap.size) (R : Exit → Act → World → Prop)
    (hR : ∀ (v47 v48 v49 v50 v51 v52 v53 v54 v55 v56 v57 v58 v59 v60 : Value) (b : Nat) (W' : World), Below W.heap.size W W' → b < W'.heap.size → W.heap.size ≤ b → W'.cell? ⟨b, 0, none⟩ = some (.int .i64 M.rate) → W'.cell? ⟨b, 1, none⟩ = some (.int .i64 M.burst) → R .normal ⟨#[.pointer (some ⟨rb, 0, none⟩), u1, u2, u3, u4, u5, .pointer (some ⟨g, i * 4, none⟩), .pointer (some ⟨b, 0, none⟩), u8, u9, u10, u11, u12, u13, u14, u15, u16, u17, u18, u19, u20, u21, u22, u23, u24, u25, u26, u27, u28, u29, u30, u31, u32, u33, u34, u35, u36, u37, u38, u39, u40, u41, u42, u43, u44, u45, u46, v47, v48, v49, v50, v51, v52, v53, v54, v55, v56, v57, v58, v59, v60, u61, u62, u63, u64, u65, u66, u67, u68, u69, u70, u71, u72, u73, u74, u75, u76, u77, u78, u79, u80], []⟩ W') :
    Code.wp Tryz.prog (tickReg 8) R ⟨#[.pointer (some ⟨rb, 0, none⟩), u1, u2, u3, u4, u5, .pointer (some ⟨g, i * 4, none⟩), u7, u8, u9, u10, u11, u12, u13, u14, u15, u16, u17, u18, u19, u20, u21, u22, u23, u24, u25, u26, u27, u28, u29, u30, u31, u32, u33, u34, u35, u36, u37, u38, u39, u40, u41, u42, u43, u44, u45, u46, u47, u48, u49, u50, u51, u52, u53, u54, u55, u56, u57, u58, u59, u60, u61, u62, u63, u64, u65, u66, u67, u68, u69, u70, u71, u72, u73, u74, u75, u76, u77, u78, u79, u80], []⟩ W := by
  conv => arg 2; whnf
  have hlim := fun W (hW : IsRefB W rb v vB tm l bs) => refLimit_core l rb v cls org ten W hW.lt hW.cells.1 (RefL.own hW.own rfl) hW.ok.2.2 hW.dflt hcls
  rw [← hM] at hlim
  have hba := Below.alloc1 W (.cells #[.int .i64 0, .int .i64 0] 27)
  have y0 := (hba.cell (p := ⟨g, i * 4, none⟩) hg).trans x0
  have y1 := (hba.cell (p := ⟨g, i * 4 + 1, none⟩) hg).trans x1
  have y2 := (hba.cell (p := ⟨g, i * 4 + 2, none⟩) hg).trans x2
  have HI0 := hide (hI.below (Below.refl W.heap.size W).drew)
  have HI1 := hide (hI.below hba.drew)
  have HLM := hide hlim; have HR := hide hR; have HBA := hide hba
  clear hI hlim hR hba hM
  refine wp_region_noPanic ?_
  go_region_with (first
    | (go_at_call 95; refine (unhide HLM _ (by first | exact unhide HI0 | exact unhide HI1)).mono ?_; rintro e w1 ⟨rfl, hb1⟩; (try obtain ⟨t0, t1, t2, t3, t4⟩ := Two.keep (W := (W.alloc (.cells #[.int .i64 0, .int .i64 0] 27)).drew) (Two.made W (.int .i64 0) (.int .i64 0) 27) hb1 (by simp)); have HB1 := hide hb1; unfold limV; clear hb1))
  all_goals
    refine NoPanic.normal ?_
    first
      | (have hq := two_set ((unhide HBA).drew.trans ((unhide HB1).mono (by simp))) ⟨t0, t1, t2, t3, t4⟩ (Nat.le_refl _) (.int .i64 M.rate) (.int .i64 M.burst)
         exact unhide HR _ _ _ _ _ _ _ _ _ _ _ _ _ _  W.heap.size _ hq.1 hq.2.1 (Nat.le_refl _) hq.2.2.1 hq.2.2.2)
      | (have hq := Two.made w1 (.int .i64 M.rate) (.int .i64 M.burst) 27
         have hb2 := ((Below.refl W.heap.size W).drew.trans (unhide HB1)).trans ((Below.alloc1 w1 (.cells #[.int .i64 M.rate, .int .i64 M.burst] 27)).mono (unhide HB1).size)
         exact unhide HR _ _ _ _ _ _ _ _ _ _ _ _ _ _  w1.heap.size _ hb2 hq.2.2.2.2 (unhide HB1).size hq.1 hq.2.1)

end Go.Proofs.YthmhfilkgggagaaGreatDoor
