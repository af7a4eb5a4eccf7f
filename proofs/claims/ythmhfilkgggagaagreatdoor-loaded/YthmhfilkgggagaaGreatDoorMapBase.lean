/-
  The map of a table: keyed by subjects, of limits; what it holds, as a list of what was said.
-/
import Derived.Test.YthmhfilkgggagaaGreatDoorLines
import Derived.Maps.OwnSet
import Derived.Maps.OwnOps
import Derived.DeepKeys4
namespace Go.Proofs.YthmhfilkgggagaaGreatDoor
open Go.RowKit Go.Maps

theorem laidOut : laidOutB Tryz.prog = true := by kernel_rfl
set_option maxRecDepth 100000 in
theorem row_subj : (151 : TypeId) < Tryz.prog.types.size := of_decide_eq_true (by kernel_rfl)
theorem keyAt_subj : Tryz.prog.keyTypeAt 4 151 = true := by kernel_rfl
theorem law_subj : Keyed Tryz.prog 151 := Keyed.of_law (deep_law_laid laidOut (m := 4) (by omega) row_subj keyAt_subj (by rw [Tryz.underlying151]))
theorem keyType_subj : Tryz.prog.keyType 151 = true := by kernel_rfl
theorem cells_subj : Tryz.prog.cellsOf 151 = 4 := by kernel_rfl
theorem cells_kind : Tryz.prog.cellsOf 149 = 1 := by kernel_rfl
theorem cells_class : Tryz.prog.cellsOf 116 = 1 := by kernel_rfl
theorem cells_str : Tryz.prog.cellsOf 9 = 1 := by kernel_rfl

def OkS (s : Sl.Subj) : Prop := s.kind < 4 ∧ s.cls < 2 ∧ s.org.length ≤ 2000 ∧ s.ten.length ≤ 2000

def kl (s : Sl.Subj) : Lit := .string (keyBytes [.int .i64 s.kind, .int .i64 s.cls, .string s.org, .string s.ten])

theorem keyLits_succ (n : Nat) (t : TypeId) (cs : List Value) (fs : Array Field) (h : Tryz.prog.underlying t = some (.struct fs)) : Tryz.prog.keyLits (n + 1) t cs = if cs.length = Tryz.prog.cellsOf t ∧ fs.all (·.name != "_") = true then (fs.toList.mapM fun f => Tryz.prog.keyLits n f.type ((cs.drop f.offset).take (Tryz.prog.cellsOf f.type))).map List.flatten else none := by
  simp [Program.keyLits, h]

set_option maxRecDepth 100000 in
theorem keyOf_subj (s : Sl.Subj) (h : OkS s) : keyOf Tryz.prog 151 (subjV s) = some (kl s) := by
  obtain ⟨h1, h2, h3, h4⟩ := h
  obtain ⟨n, hn⟩ : ∃ n, Tryz.prog.types.size = n + 2 := ⟨_, (Nat.sub_add_cancel (show 2 ≤ Tryz.prog.types.size from of_decide_eq_true (by kernel_rfl))).symm⟩
  unfold keyOf
  rw [Tryz.underlying151]
  simp only []
  rw [keyType_subj, hn, keyLits_succ _ _ _ _ Tryz.underlying151]
  have wk : (Lit.int .i64 (s.kind : Int)).wf = true := WalkArith.wf_i64 (by omega)
  have wc : (Lit.int .i64 (s.cls : Int)).wf = true := WalkArith.wf_i64 (by omega)
  have so : (⟨s.org.toArray⟩ : ByteArray).size ≤ maxLen := by show s.org.toArray.size ≤ _; simp [maxLen]; omega
  have st : (⟨s.ten.toArray⟩ : ByteArray).size ≤ maxLen := by show s.ten.toArray.size ≤ _; simp [maxLen]; omega
  simp [subjV, Value.formed, Tryz.underlying151, cells_subj, cells_kind, cells_class, cells_str, Value.cells, Program.keyLits, Tryz.underlying149, Tryz.underlying116, Tryz.underlying9, wk, wc, kl, so, st]

theorem subjV_inj {a b : Sl.Subj} (h : subjV a = subjV b) : a = b := by
  obtain ⟨k1, c1, o1, t1⟩ := a
  obtain ⟨k2, c2, o2, t2⟩ := b
  simp [subjV] at h
  obtain ⟨h1, h2, h3, h4⟩ := h
  have e1 : k1 = k2 := by omega
  have e2 : c1 = c2 := by omega
  subst e1 e2 h3 h4
  rfl

theorem kl_inj {a b : Sl.Subj} (ha : OkS a) (hb : OkS b) (h : kl a = kl b) : a = b :=
  subjV_inj (law_subj.inj (keyOf_subj a ha) (by rw [h]; exact keyOf_subj b hb))

theorem kl_key (a : Sl.Subj) : WideAt.IsKeyLit (kl a) := trivial

/-- How a limit reads. -/
def limR : Value → Option (DataW Unit × List MemPlace)
  | .agg xs => match xs.toList with
    | [.int .i64 a, .int .i64 b] => some (.agg [.lit (.int .i64 a), .lit (.int .i64 b)], [])
    | _ => none
  | _ => none
def limD (l : Sl.Lim) : DataW Unit := .agg [.lit (.int .i64 l.rate), .lit (.int .i64 l.burst)]

theorem limR_mk (l : Sl.Lim) : limR (limV l) = some (limD l, []) := rfl
theorem limR_inv {v : Value} {l : Sl.Lim} {ps : List MemPlace} (h : limR v = some (limD l, ps)) : v = limV l := by
  unfold limR at h
  split at h
  · next xs =>
    split at h
    · next a b e =>
      simp [limD] at h
      obtain ⟨⟨h1, h2⟩, _⟩ := h
      subst h1 h2
      unfold limV
      congr 1
      apply Array.toList_inj.1
      rw [e]
    · cases h
  · cases h

def tabD (l : List (Sl.Subj × Sl.Lim)) : DataW Unit := l.foldl (fun m x => m.put (kl x.1) (limD x.2)) (.map [])
theorem tabD_snoc (l : List (Sl.Subj × Sl.Lim)) (x : Sl.Subj × Sl.Lim) : tabD (l ++ [x]) = (tabD l).put (kl x.1) (limD x.2) := by simp [tabD]

def look (l : List (Sl.Subj × Sl.Lim)) (s : Sl.Subj) : Option Sl.Lim := (l.find? fun x => Sl.sameS x.1 s).map (·.2)
def OkL (l : List (Sl.Subj × Sl.Lim)) : Prop := (∀ x ∈ l, OkS x.1) ∧ l.Pairwise fun a b => a.1 ≠ b.1

theorem snoc_ind {α : Type} {p : List α → Prop} (h0 : p []) (h1 : ∀ l x, p l → p (l ++ [x])) (l : List α) : p l := by
  have : ∀ r : List α, p r.reverse := by
    intro r
    induction r with
    | nil => exact h0
    | cons x r ih => rw [List.reverse_cons]; exact h1 _ _ ih
  rw [← List.reverse_reverse l]; exact this _

theorem OkL.front {l : List (Sl.Subj × Sl.Lim)} {x : Sl.Subj × Sl.Lim} (h : OkL (l ++ [x])) : OkL l ∧ OkS x.1 ∧ ∀ y ∈ l, y.1 ≠ x.1 := by
  obtain ⟨h1, h2⟩ := h
  rw [List.pairwise_append] at h2
  exact ⟨⟨fun y hy => h1 y (by simp [hy]), h2.1⟩, h1 x (by simp), fun y hy => h2.2.2 y hy x (by simp)⟩

theorem tabD_isMap (l : List (Sl.Subj × Sl.Lim)) : IsMap (tabD l) := by
  refine snoc_ind (p := fun l => IsMap (tabD l)) isMap_empty ?_ l
  intro l x ih; rw [tabD_snoc]; exact ih.put _ _

theorem same_not {a b : Sl.Subj} (h : a ≠ b) : Sl.sameS a b = false := by
  cases e : Sl.sameS a b with
  | false => rfl
  | true => exact absurd ((Sl.sameS_iff a b).1 e) h

theorem has_tabD (l : List (Sl.Subj × Sl.Lim)) (s : Sl.Subj) (hs : OkS s) (hl : OkL l) : Maps.has (tabD l) (kl s) = (look l s).isSome := by
  revert hl
  refine snoc_ind (p := fun l => OkL l → Maps.has (tabD l) (kl s) = (look l s).isSome) (fun _ => rfl) ?_ l
  intro l x ih hl
  obtain ⟨h1, h2, h3⟩ := hl.front
  rw [tabD_snoc]
  by_cases e : x.1 = s
  · rw [e, has_put_same (tabD_isMap l) (kl_key s)]
    unfold look
    rw [List.find?_append]
    have : Sl.sameS x.1 s = true := (Sl.sameS_iff _ _).2 e
    cases hf : l.find? (fun x => Sl.sameS x.1 s) <;> simp [this]
  · rw [has_put_other (fun h => e (kl_inj hs h2 h).symm), ih h1]
    unfold look
    rw [List.find?_append]
    simp [same_not e]

theorem at_tabD (l : List (Sl.Subj × Sl.Lim)) (s : Sl.Subj) (hs : OkS s) (hl : OkL l) : (tabD l).atKey (kl s) (limD noLim) = limD ((look l s).getD noLim) := by
  revert hl
  refine snoc_ind (p := fun l => OkL l → (tabD l).atKey (kl s) (limD noLim) = limD ((look l s).getD noLim)) (fun _ => rfl) ?_ l
  intro l x ih hl
  obtain ⟨h1, h2, h3⟩ := hl.front
  rw [tabD_snoc]
  by_cases e : x.1 = s
  · rw [e, atKey_put_same (tabD_isMap l) (kl_key s)]
    unfold look
    rw [List.find?_append]
    have hn : l.find? (fun x => Sl.sameS x.1 s) = none := by
      rw [List.find?_eq_none]
      intro y hy hc
      exact h3 y hy (((Sl.sameS_iff _ _).1 hc).trans e.symm)
    have : Sl.sameS x.1 s = true := (Sl.sameS_iff _ _).2 e
    rw [hn]; simp [this]
  · rw [atKey_put_other (fun h => e (kl_inj hs h2 h).symm), ih h1]
    unfold look
    rw [List.find?_append]
    simp [same_not e]

end Go.Proofs.YthmhfilkgggagaaGreatDoor
