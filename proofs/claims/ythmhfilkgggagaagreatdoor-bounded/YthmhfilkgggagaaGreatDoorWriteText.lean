/-
  writeText: the canonical text is laid into the table, and nothing else turns.
-/
import Derived.Test.YthmhfilkgggagaaGreatDoorSubjects2
namespace Go.Proofs.YthmhfilkgggagaaGreatDoor
open Go.RowKit Go.Maps Go.Sort Go.Shelf

theorem lays_write : Lays.n166 Tryz.prog Tryz.lays156_ren := { Tryz.lays156 with }

theorem writeString_any (B b : Nat) (bs : List Value) (s : ByteArray) (w : World) (h : Lib.IsBuilderF 196 5 B b bs w) (hlen : bs.length + s.size ≤ 140737488355328) (hBw : B ≤ w.heap.size) :
    Calls Tryz.prog 104 #[.pointer (some ⟨b, 0, none⟩), .string s] w fun e w' => e = .returned (.tuple #[.int .i64 s.size, .nilIface]) ∧ (Lib.BuilderAtF 196 5 B b (.pointer (some ⟨b, 0, none⟩)) (bs ++ Lib.strCells s) w' ∧ Below B w w' ∧ Lib.OthersKept 5 (some b) w w') :=
  Any.Builder_WriteString_k lays_write Tryz.Builder_Extra_156 B b bs s w h hlen hBw

theorem look_one {w : World} {b n : Nat} {l : List (Sl.Subj × Sl.Lim)} (h : w.ownsMap Tryz.prog 151 limR b n (tabD l)) (s : Sl.Subj) (hs : OkS s) (hl : OkL l) :
    (Instr.lookup 109 (.map (some b)) (subjV s) false).run Tryz.prog w = .ok (limV ((look l s).getD noLim)) w := by
  obtain ⟨v, ps, hrun, hv⟩ := h.lookup law_subj Tryz.underlying109 (zero_lim w) (limR_mk noLim) (keyOf_subj s hs)
  rw [at_tabD l s hs hl] at hv
  rw [hrun, limR_inv hv]

theorem builder_below {T e : TypeId} {B b : Nat} {bs : List Value} {W W' : World} (h : Lib.IsBuilderF T e B b bs W) (hb : Below W.heap.size W W') : Lib.IsBuilderF T e B b bs W' := by
  have one : ∀ p, Lib.BuilderAtF T e B b p bs W → Lib.BuilderAtF T e B b p bs W' := by
    rintro p ⟨hB, v, hv, hown, hne⟩
    have hlt : b < W.heap.size := (Array.getElem?_eq_some_iff.1 hv).1
    exact ⟨hB, v, (hb.block b hlt).trans hv, hown.kept (row := none) ⟨hb.os, hb.tape, hb.output, hb.size, fun k hk _ => hb.block k hk⟩ (Classical.em _), hne⟩
  exact h.elim (fun x => .inl (one _ x)) (fun x => .inr (one _ x))

theorem SubjsAt.block {w w' : World} {g : Nat} {l : List Sl.Subj} (h : SubjsAt w g l) (hb : w'.heap[g]? = w.heap[g]?) : SubjsAt w' g l :=
  fun i hi c hc => (World.cell?_of_block (a := ⟨g, i * 4 + c, none⟩) hb).trans (h i hi c hc)

/-- The canonical text of what is said. -/
def textTo (l : List (Sl.Subj × Sl.Lim)) (ss : List Sl.Subj) : List UInt8 := ss.flatMap fun s => lineText s ((look l s).getD noLim)
def textOf (l : List (Sl.Subj × Sl.Lim)) : List UInt8 := textTo l (sortS (l.map (·.1)))

theorem textTo_snoc (l : List (Sl.Subj × Sl.Lim)) (ss : List Sl.Subj) (s : Sl.Subj) : textTo l (ss ++ [s]) = textTo l ss ++ lineText s ((look l s).getD noLim) := by simp [textTo]

/-- Limits as a table has them. -/
def OkT (l : List (Sl.Subj × Sl.Lim)) : Prop := OkL l ∧ (∀ x ∈ l, x.2.rate ≤ 1000000 ∧ x.2.burst ≤ 1000000) ∧ l.length ≤ 2001

theorem dec_len : ∀ n k : Nat, n < 10 ^ (k + 1) → (Lib.decDigits n).length ≤ k + 1
  | n, 0, h => by rw [Lib.decDigits, dif_pos (by simpa using h)]; simp
  | n, k + 1, h => by
    rw [Lib.decDigits]
    split
    · simp
    · have := dec_len (n / 10) k (by rw [Nat.pow_succ] at h; omega)
      simp; omega

theorem lineText_len (s : Sl.Subj) (m : Sl.Lim) (hs : OkS s) (hm : m.rate ≤ 1000000 ∧ m.burst ≤ 1000000) : (lineText s m).length ≤ 5000 := by
  have h1 := dec_len m.rate 6 (by omega)
  have h2 := dec_len m.burst 6 (by omega)
  obtain ⟨_, _, h3, h4⟩ := hs
  have hcl : (Sl.classW s.cls).length ≤ 6 := by unfold Sl.classW; split <;> decide
  unfold lineText frontW
  split
  · simp [Lib.join_cons, Lib.joinTail, Sl.defaultW, Sl.orgW]; omega
  · split
    · simp [Lib.join_cons, Lib.joinTail, Sl.defaultW, Sl.tenantW]; omega
    · split
      · simp [Lib.join_cons, Lib.joinTail, Sl.orgW]; omega
      · simp [Lib.join_cons, Lib.joinTail, Sl.tenantW]; omega

theorem textTo_len (l : List (Sl.Subj × Sl.Lim)) : ∀ ss : List Sl.Subj, (∀ s ∈ ss, (lineText s ((look l s).getD noLim)).length ≤ 5000) → (textTo l ss).length ≤ ss.length * 5000
  | [], _ => by simp [textTo]
  | s :: r, h => by
    have e : textTo l (s :: r) = lineText s ((look l s).getD noLim) ++ textTo l r := rfl
    have := textTo_len l r (fun t ht => h t (by simp [ht]))
    have h2 := h s (by simp)
    rw [e, List.length_append]; simp; omega

end Go.Proofs.YthmhfilkgggagaaGreatDoor
