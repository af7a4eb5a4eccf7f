/-
  The document's answer: the limit of a bucket, Limit.
  The document's answer: Limit.
  The document's answer: what Read stands on: plain facts on lines, and what said answers for whatever words.
-/
import Derived.Test.YtapbajcmnngamaaGreatDoorRefDE
namespace Go.Proofs.YtapbajcmnngamaaGreatDoor
open Go.RowKit Go.Maps Go.Sort

theorem find_spec (s : Sl.Subj) : ∀ (l : List (Sl.Subj × Sl.Lim)) (k : Nat), (findFrom s l k = -1 ∧ look l s = none) ∨ ∃ i, ∃ hi : i < l.length, findFrom s l k = ((k + i : Nat) : Int) ∧ look l s = some l[i].2
  | [], k => .inl ⟨rfl, rfl⟩
  | x :: r, k => by
    by_cases h : Sl.sameS x.1 s = true
    · right
      refine ⟨0, by simp, ?_, ?_⟩
      · unfold findFrom; rw [if_pos h]; rfl
      · simp [look, h]
    · have e1 : findFrom s (x :: r) k = findFrom s r (k + 1) := by
        conv => lhs; unfold findFrom
        rw [if_neg h]
      have e2 : look (x :: r) s = look r s := by simp [look, h]
      rcases find_spec s r (k + 1) with ⟨h1, h2⟩ | ⟨i, hi, h1, h2⟩
      · exact .inl ⟨e1.trans h1, e2.trans h2⟩
      · refine .inr ⟨i + 1, by simp; omega, ?_, ?_⟩
        · rw [e1, h1]; congr 1; omega
        · rw [e2, h2]; rfl

theorem find_at (l : List (Sl.Subj × Sl.Lim)) (v : Value) (kind cls : Int) (s2 s3 : ByteArray) (kn cn : Nat) (o t : List UInt8) (hk : kind = kn) (hc : cls = cn) (h2 : s2 = ⟨o.toArray⟩) (h3 : s3 = ⟨t.toArray⟩) (w : World) (h : RefL w v l) (hn : l.length ≤ 2001) :
    Calls Tryz.prog 83 #[v, .int .i64 kind, .int .i64 cls, .string s2, .string s3] w fun e w' => e = .returned (.int .i64 (findFrom ⟨kn, cn, o, t⟩ l 0)) ∧ w' = w := by
  subst hk hc h2 h3
  exact find_any l v ⟨kn, cn, o, t⟩ w h hn

theorem own_weak {w : World} {B B' e size n : Nat} {v : Value} {xs : List Value} (h : w.ownsRow B e size v n xs) (hb : B' ≤ B) : w.ownsRow B' e size v n xs := by
  refine ⟨h.1, ?_⟩
  rcases h.2 with h2 | ⟨g, cap, cur, e1, h1, rest⟩
  · exact .inl h2
  · exact .inr ⟨g, cap, cur, e1, Nat.le_trans hb h1, rest⟩

/-- The document's sluice: its lines. -/
structure IsRef (w : World) (rb : Nat) (v : Value) (l : List (Sl.Subj × Sl.Lim)) : Prop where
  at_ : w.heap[rb]? = some (.cells #[v, .slice none 0 0, .int .i64 0] 106 (0, 0))
  own : w.ownsRow 0 137 6 v l.length (saidAll l)
  ok : OkT l
  dflt : defaultsB l = true
  low : 6 ≤ rb

theorem IsRef.list {w : World} {rb : Nat} {v : Value} {l : List (Sl.Subj × Sl.Lim)} (h : IsRef w rb v l) : RefL w v l := RefL.own h.own rfl

theorem IsRef.len {w : World} {rb : Nat} {v : Value} {l : List (Sl.Subj × Sl.Lim)} (h : IsRef w rb v l) : l.length ≤ 2001 := h.ok.2.2

theorem IsRef.lt {w : World} {rb : Nat} {v : Value} {l : List (Sl.Subj × Sl.Lim)} (h : IsRef w rb v l) : rb < w.heap.size := (Array.getElem?_eq_some_iff.1 h.at_).1

theorem IsRef.below {w w' : World} {rb : Nat} {v : Value} {l : List (Sl.Subj × Sl.Lim)} (h : IsRef w rb v l) (hb : Below w.heap.size w w') : IsRef w' rb v l :=
  ⟨(hb.block rb h.lt).trans h.at_, own_below h.own hb, h.ok, h.dflt, h.low⟩

theorem IsRef.cell {w : World} {rb : Nat} {v : Value} {l : List (Sl.Subj × Sl.Lim)} (h : IsRef w rb v l) : w.cell? ⟨rb, 0, none⟩ = some v := by
  simp [World.cell?, h.at_]

theorem dflt_look {l : List (Sl.Subj × Sl.Lim)} (h : defaultsB l = true) (k c : Nat) (hk : k < 2) (hc : c < 2) : (look l ⟨k, c, [], []⟩).isSome = true := by
  apply Classical.byContradiction
  intro hn
  have := no_default l k c hk hc (by unfold dflt; simpa using hn)
  rw [this] at h; cases h

/-- What stands at a place of the list. -/
theorem RefL.nth {w : World} {v : Value} {l : List (Sl.Subj × Sl.Lim)} (h : RefL w v l) {i : Nat} (hi : i < l.length) : ∃ g cap, v = .slice (some ⟨g, 0, none⟩) l.length cap ∧ g < w.heap.size ∧
    ∀ j u, j < 6 → (saidC l[i].1 l[i].2)[j]? = some u → w.cell? ⟨g, i * 6 + j, none⟩ = some u := by
  rcases h with ⟨_, rfl⟩ | ⟨g, cap, rfl, hg, hc⟩
  · simp at hi
  · exact ⟨g, cap, rfl, hg, fun j u hj hu => hc _ _ (by rw [saidAll_at l i hi j hj]; exact hu)⟩

set_option maxRecDepth 100000 in
set_option maxHeartbeats 4000000 in
theorem refLimit_in (l : List (Sl.Subj × Sl.Lim)) (rb : Nat) (v : Value) (c : Nat) (org ten : List UInt8) (w : World) (h : IsRef w rb v l) (hc : c < 2) :
    Calls Tryz.prog 62 #[.pointer (some ⟨rb, 0, none⟩), .int .i64 c, .string ⟨org.toArray⟩, .string ⟨ten.toArray⟩] w fun e w' => e = .returned (limV (limitS l c org ten)) ∧ Below w.heap.size w w' := by
  have hrb := h.lt
  have hcl := h.cell
  have hbz : ∀ o, RefL (w.alloc o) v l := fun o => h.list.below (Below.alloc1 w o)
  have HB := hide hbz
  have hn := h.len
  obtain ⟨T, hT⟩ : ∃ T : ByteArray, T = ⟨ten.toArray⟩ := ⟨_, rfl⟩
  obtain ⟨O, hO⟩ : ∃ T : ByteArray, T = ⟨org.toArray⟩ := ⟨_, rfl⟩
  rw [← hT, ← hO]
  have hemp : T.toList = ten := by rw [ByteArray.toList_eq, hT]
  have HT := hide hT; have HO := hide hO; have HEM := hide hemp
  have HD := hide h.dflt
  -- the two look-ups
  have key : ∃ k : Nat, (k = 2 ∧ ten = [] ∨ k = 3 ∧ ten ≠ []) ∧ limitS l c org ten = (look l ⟨k, c, org, ten⟩).getD ((look l ⟨k - 2, c, [], []⟩).getD noLim) := by
    by_cases h0 : ten = []
    · exact ⟨2, .inl ⟨rfl, h0⟩, by unfold limitS; rw [if_pos h0, h0]⟩
    · exact ⟨3, .inr ⟨rfl, h0⟩, by unfold limitS; rw [if_neg h0]⟩
  obtain ⟨k, hk, hlim⟩ := key
  rw [hlim]
  have hlist := h.list
  have HLS := hide hlist
  clear hT hO hemp h hlim hbz hlist
  have fin : ∀ (i : Nat) (hi : i < l.length), ∃ g cap, v = .slice (some ⟨g, 0, none⟩) l.length cap ∧ g < w.heap.size ∧ w.cell? ⟨g, i * 6 + 4, none⟩ = some (.int .i64 l[i].2.rate) ∧ w.cell? ⟨g, i * 6 + 5, none⟩ = some (.int .i64 l[i].2.burst) := by
    intro i hi
    obtain ⟨g, cap, e, hg, hcells⟩ := (unhide HLS).nth hi
    exact ⟨g, cap, e, hg, hcells 4 _ (by omega) rfl, hcells 5 _ (by omega) rfl⟩
  have FIN := hide fin
  clear fin
  rcases find_spec ⟨k, c, org, ten⟩ l 0 with ⟨h1, h2⟩ | ⟨i, hi, h1, h2⟩
  · rcases find_spec ⟨k - 2, c, [], []⟩ l 0 with ⟨h3, h4⟩ | ⟨i, hi, h3, h4⟩
    · exfalso
      have hd := dflt_look (unhide HD) (k - 2) c (by rcases hk with ⟨rfl, _⟩ | ⟨rfl, _⟩ <;> omega) hc
      rw [h4] at hd; cases hd
    · rw [h2, h4, Option.getD_none, Option.getD_some]
      obtain ⟨g, cap, rfl, hg, c4, c5⟩ := unhide FIN i hi
      rw [Nat.zero_add] at h3
      have H1 := hide h1; have H2 := hide h3
      generalize l[i].2 = m at *
      have hii : (i : Int) < (l.length : Int) := by omega
      clear h1 h2 h3 h4 FIN HLS HD
      rcases hk with ⟨rfl, h0⟩ | ⟨rfl, h0⟩
      · have q0 : T.toList = [] := by rw [unhide HEM]; exact h0
        clear h0
        go_enter Tryz.func62, Tryz.ntmps62
        go_wp2_with fail
        refine (find_at l _ 2 c O T 2 c org ten rfl rfl (unhide HO) (unhide HT) _ (unhide HB _) hn).mono ?_
        rintro e w1 ⟨rfl, rfl⟩
        rw [unhide H1]
        go_wp2_with fail
        refine (find_at l _ 0 c ⟨#[]⟩ ⟨#[]⟩ 0 c [] [] rfl rfl rfl rfl _ (unhide HB _) hn).mono ?_
        rintro e w1 ⟨rfl, rfl⟩
        rw [unhide H2]
        go_wp2
        exact bodyPost_ret (v := limV m) (by simp [results, Tryz.results62, go_sem, limV]) rfl ⟨rfl, Below.alloc1 _ _⟩
      · have q0 : ¬ T.toList = [] := by rw [unhide HEM]; exact h0
        have q1 : T.toList.isEmpty = false := by
          rw [unhide HEM]
          cases ten with
          | nil => exact absurd rfl h0
          | cons a r => rfl
        clear h0
        go_enter Tryz.func62, Tryz.ntmps62
        go_wp2_with fail
        refine (find_at l _ 3 c O T 3 c org ten rfl rfl (unhide HO) (unhide HT) _ (unhide HB _) hn).mono ?_
        rintro e w1 ⟨rfl, rfl⟩
        rw [unhide H1]
        go_wp2_with fail
        refine (find_at l _ 1 c ⟨#[]⟩ ⟨#[]⟩ 1 c [] [] rfl rfl rfl rfl _ (unhide HB _) hn).mono ?_
        rintro e w1 ⟨rfl, rfl⟩
        rw [unhide H2]
        go_wp2
        exact bodyPost_ret (v := limV m) (by simp [results, Tryz.results62, go_sem, limV]) rfl ⟨rfl, Below.alloc1 _ _⟩
  · rw [h2, Option.getD_some]
    obtain ⟨g, cap, rfl, hg, c4, c5⟩ := unhide FIN i hi
    rw [Nat.zero_add] at h1
    have H1 := hide h1
    generalize l[i].2 = m at *
    have hii : (i : Int) < (l.length : Int) := by omega
    clear h1 h2 FIN HLS HD
    rcases hk with ⟨rfl, h0⟩ | ⟨rfl, h0⟩
    · have q0 : T.toList = [] := by rw [unhide HEM]; exact h0
      clear h0
      go_enter Tryz.func62, Tryz.ntmps62
      go_wp2_with fail
      refine (find_at l _ 2 c O T 2 c org ten rfl rfl (unhide HO) (unhide HT) _ (unhide HB _) hn).mono ?_
      rintro e w1 ⟨rfl, rfl⟩
      rw [unhide H1]
      go_wp2
      exact bodyPost_ret (v := limV m) (by simp [results, Tryz.results62, go_sem, limV]) rfl ⟨rfl, Below.alloc1 _ _⟩
    · have q0 : ¬ T.toList = [] := by rw [unhide HEM]; exact h0
      have q1 : T.toList.isEmpty = false := by
        rw [unhide HEM]
        cases ten with
        | nil => exact absurd rfl h0
        | cons a r => rfl
      clear h0
      go_enter Tryz.func62, Tryz.ntmps62
      go_wp2_with fail
      refine (find_at l _ 3 c O T 3 c org ten rfl rfl (unhide HO) (unhide HT) _ (unhide HB _) hn).mono ?_
      rintro e w1 ⟨rfl, rfl⟩
      rw [unhide H1]
      go_wp2
      exact bodyPost_ret (v := limV m) (by simp [results, Tryz.results62, go_sem, limV]) rfl ⟨rfl, Below.alloc1 _ _⟩

end Go.Proofs.YtapbajcmnngamaaGreatDoor

namespace Go.Proofs.YtapbajcmnngamaaGreatDoor
open Go.RowKit Go.Maps Go.Sort

theorem bucket_same (cls org ten : List UInt8) : (bucketA cls org ten).2 = (bucketS cls org ten).isSome ∧ ∀ c, bucketS cls org ten = some c → (bucketA cls org ten).1 = c := by
  unfold bucketA bucketS
  cases Sl.classOf cls with
  | none => exact ⟨rfl, fun c h => by cases h⟩
  | some n =>
    by_cases h1 : Sl.isName org = true
    · simp only [h1, if_true, true_and]
      by_cases h2 : ten = []
      · simp [h2]
      · cases h3 : Sl.isName ten <;> simp [h2]
    · simp [h1]

set_option maxRecDepth 100000 in
set_option maxHeartbeats 4000000 in
theorem refLimit_any (l : List (Sl.Subj × Sl.Lim)) (rb : Nat) (v : Value) (cls org ten : List UInt8) (w : World) (h : IsRef w rb v l) (ho : org.length ≤ 281474976710656) (ht : ten.length ≤ 281474976710656) :
    Calls Tryz.prog 34 #[.pointer (some ⟨rb, 0, none⟩), .string ⟨cls.toArray⟩, .string ⟨org.toArray⟩, .string ⟨ten.toArray⟩] w fun e w' => e = .returned (.tuple #[limV (limitA l cls org ten).1, .int .i64 (limitA l cls org ten).2]) ∧ Below w.heap.size w w' := by
  have hnm := fun W => named_any cls org ten W ho ht
  have HNM := hide hnm
  have HH := hide h
  obtain ⟨b1, b2⟩ := bucket_same cls org ten
  cases hbs : bucketS cls org ten with
  | none =>
    have e : limitA l cls org ten = (noLim, 5) := by unfold limitA; rw [b1, hbs]; rfl
    have en : namedV cls org ten = .tuple #[.int .i64 0, .int .i64 5] := by unfold namedV; rw [hbs]
    rw [e]
    have HEN := hide en
    clear hnm h b1 b2 hbs e en
    go_enter Tryz.func34, Tryz.ntmps34
    go_wp2_with fail
    refine (unhide HNM _).mono ?_
    rintro e w1 ⟨rfl, rfl⟩
    rw [unhide HEN]
    go_wp2
    exact bodyPost_ret (v := .tuple #[limV noLim, .int .i64 5]) (by simp [results, Tryz.results34, go_sem, limV, noLim]) rfl ⟨rfl, Below.alloc1 _ _⟩
  | some c =>
    have hc : c < 2 := by
      have := bucketA_ok (cls := cls) (org := org) (ten := ten) (by rw [b1, hbs]; rfl)
      rw [b2 c hbs] at this
      exact this.1
    have e : limitA l cls org ten = (limitS l c org ten, 0) := by unfold limitA; rw [b1, hbs, b2 c hbs]; rfl
    have en : namedV cls org ten = .tuple #[.int .i64 c, .int .i64 0] := by unfold namedV; rw [hbs]
    rw [e]
    have HEN := hide en
    have hlim := hide (fun o => refLimit_in l rb v c org ten _ ((unhide HH).below (Below.alloc1 w o)) hc)
    clear hnm h b1 b2 hbs e en
    generalize limitS l c org ten = m at *
    go_enter Tryz.func34, Tryz.ntmps34
    go_wp2_with fail
    refine (unhide HNM _).mono ?_
    rintro e w1 ⟨rfl, rfl⟩
    rw [unhide HEN]
    go_wp2_with fail
    refine (unhide hlim _).mono ?_
    rintro e w1 ⟨rfl, hb⟩
    have hz : w.heap.size < w1.heap.size := by have := hb.size; simp at this; omega
    have H2 := hide (Two.keep (Two.made w (.int .i64 0) (.int .i64 0) 27) hb (by simp))
    obtain ⟨r0, r1, f0, f1, _⟩ := unhide H2
    have gg : ∀ x y o, (((w1.setCell ⟨w.heap.size, 0, none⟩ x).setCell ⟨w.heap.size, 1, none⟩ y).alloc o).cell? ⟨w.heap.size, 0, none⟩ = some x ∧ (((w1.setCell ⟨w.heap.size, 0, none⟩ x).setCell ⟨w.heap.size, 1, none⟩ y).alloc o).cell? ⟨w.heap.size, 1, none⟩ = some y := by
      intro x y o
      have hsz : w.heap.size < ((w1.setCell ⟨w.heap.size, 0, none⟩ x).setCell ⟨w.heap.size, 1, none⟩ y).heap.size := by simpa using hz
      rw [World.cell?_alloc_past _ _ _ hsz, World.cell?_alloc_past _ _ _ hsz]
      refine ⟨?_, ?_⟩
      · rw [World.cell?_setCell_other _ _ _ _ (by intro h; cases h)]; exact World.cell?_setCell_same _ _ _ r0
      · exact World.cell?_setCell_same _ _ _ (by rw [World.cell?_setCell_other _ _ _ _ (by intro h; cases h)]; exact r1)
    have GG := hide gg
    clear gg
    unfold limV
    go_wp2
    refine bodyPost_ret (v := .tuple #[limV m, .int .i64 0]) (by simp [results, Tryz.results34, go_sem, limV, (unhide GG _ _ _).1, (unhide GG _ _ _).2]) rfl ⟨rfl, ?_⟩
    exact ((((Below.alloc1 w _).trans (hb.mono (by simp))).setCell (Nat.le_refl _) _).setCell (Nat.le_refl _) _).alloc (by simp; omega) _

end Go.Proofs.YtapbajcmnngamaaGreatDoor

namespace Go.Proofs.YtapbajcmnngamaaGreatDoor
open Go.RowKit Go.Maps Go.Sort

/-- What is left to read, when the lines up to place k are read and the line that began at fr is under way. -/
def Todo (t : List UInt8) (fr k ln : Nat) (acc : List Sl.Saying) (R : List Sl.Saying × Nat) : Prop :=
  (k ≤ t.length ∧ Sl.scan ln (Sl.lgo (cutB t fr k) (t.drop k)) acc = R) ∨ (k = t.length + 1 ∧ (acc, 0) = R)

theorem todo_start (t : List UInt8) : Todo t 0 0 0 [] (Sl.scan 0 (Sl.lines t) []) := .inl ⟨Nat.zero_le _, by rw [cutB_self]; rfl⟩

theorem todo_byte {t : List UInt8} {fr k ln : Nat} {acc : List Sl.Saying} {R : List Sl.Saying × Nat} {x : UInt8} (h : Todo t fr k ln acc R) (hf : fr ≤ k) (hx : t[k]? = some x) (h10 : x ≠ 10) : Todo t fr (k + 1) ln acc R := by
  have hk := (List.getElem?_eq_some_iff.1 hx).1
  rcases h with ⟨_, h⟩ | ⟨h, _⟩
  · left
    refine ⟨by omega, ?_⟩
    rw [drop_at t k x hx] at h
    rw [← h, cutB_snoc t fr k x hf hx]
    conv => rhs; unfold Sl.lgo
    rw [if_neg h10]
  · omega

/-- A line ends at k. -/
theorem todo_line {t : List UInt8} {fr k ln : Nat} {acc : List Sl.Saying} {R : List Sl.Saying × Nat} (h : Todo t fr k ln acc R) (hk : k ≤ t.length) (h10 : k < t.length → t[k]? = some 10) :
    (Sl.nothing (Sl.fields (cutB t fr k)) = true → Todo t (k + 1) (k + 1) (ln + 1) acc R) ∧
    (¬ Sl.nothing (Sl.fields (cutB t fr k)) = true → Sl.line (Sl.fields (cutB t fr k)) = none → R = ([], ln + 1)) ∧
    (¬ Sl.nothing (Sl.fields (cutB t fr k)) = true → ∀ s m, Sl.line (Sl.fields (cutB t fr k)) = some (s, m) → Todo t (k + 1) (k + 1) (ln + 1) (acc ++ [⟨ln + 1, s, m⟩]) R) := by
  have key : ∃ rest, Sl.scan ln (cutB t fr k :: rest) acc = R ∧ ∀ acc', Sl.scan (ln + 1) rest acc' = R → Todo t (k + 1) (k + 1) (ln + 1) acc' R := by
    rcases h with ⟨_, h⟩ | ⟨h, _⟩
    · by_cases hlt : k < t.length
      · rw [drop_at t k 10 (h10 hlt)] at h
        refine ⟨Sl.lgo [] (t.drop (k + 1)), ?_, fun acc' ha => .inl ⟨by omega, by rw [cutB_self]; exact ha⟩⟩
        rw [← h]
        conv => rhs; unfold Sl.lgo
        rw [if_pos rfl]
      · have e : t.drop k = [] := List.drop_eq_nil_of_le (by omega)
        rw [e] at h
        refine ⟨[], h, fun acc' ha => .inr ⟨by omega, ha⟩⟩
    · omega
  obtain ⟨rest, hs, hn⟩ := key
  unfold Sl.scan at hs
  refine ⟨fun h1 => hn _ (by rw [if_pos h1] at hs; exact hs), fun h1 h2 => ?_, fun h1 s m h2 => hn _ ?_⟩
  · rw [if_neg h1, h2] at hs; exact hs.symm
  · rw [if_neg h1, h2] at hs; exact hs

theorem todo_done {t : List UInt8} {fr k ln : Nat} {acc : List Sl.Saying} {R : List Sl.Saying × Nat} (h : Todo t fr k ln acc R) (hk : ¬ k ≤ t.length) : R = (acc, 0) := by
  rcases h with ⟨h, _⟩ | ⟨_, h⟩
  · omega
  · exact h.symm

theorem line_short {l : List (List UInt8)} (h : l.length < 5) : Sl.line l = none := by
  unfold Sl.line
  match hr : l.reverse with
  | [] => rfl
  | [_] => rfl
  | u :: r :: m =>
    have hm : m.length < 3 := by have := congrArg List.length hr; simp at this; omega
    have : Sl.subject m.reverse = none := by
      match m, hm with
      | [], _ => rfl
      | [a], _ => simp [Sl.subject]; cases Sl.classOf a <;> simp [Sl.owner]
      | [a, b], _ => simp [Sl.subject]; cases Sl.classOf a <;> simp [Sl.owner]
    simp [this]

theorem refSaid_any (F : List (List UInt8)) (g cap : Nat) (w : World) (hg : g < w.heap.size) (hcap : F.length ≤ cap) (hn : F.length ≤ 2000) (hl : ∀ x ∈ F, x.length ≤ 2000)
    (hc : ∀ i (hi : i < F.length), w.cell? ⟨g, i, none⟩ = some (.string ⟨F[i].toArray⟩)) :
    Calls Tryz.prog 82 #[.slice (some ⟨g, 0, none⟩) F.length cap] w (SaidP (Sl.line F) w) := by
  by_cases h5 : F.length < 5
  · exact refSaid_short _ _ _ _ (line_short h5) w (by omega)
  · obtain ⟨m, xc, xr, xu, rfl, hm⟩ : ∃ m xc xr xu, F = m ++ [xc, xr, xu] ∧ m.length = F.length - 3 := by
      refine ⟨F.take (F.length - 3), F[F.length - 3], F[F.length - 2], F[F.length - 1], ?_, by simp⟩
      apply List.ext_getElem?
      intro i
      by_cases h1 : i < F.length - 3
      · rw [List.getElem?_append_left (by simp; omega), List.getElem?_take_of_lt h1]
      · rw [List.getElem?_append_right (by simp; omega)]
        have e : (F.take (F.length - 3)).length = F.length - 3 := by simp
        rw [e]
        by_cases h2 : i = F.length - 3
        · subst h2; simp [show F.length - 3 < F.length by omega]
        · by_cases h3 : i = F.length - 2
          · subst h3
            have : F.length - 2 - (F.length - 3) = 1 := by omega
            rw [this]; simp [show F.length - 2 < F.length by omega]
          · by_cases h4 : i = F.length - 1
            · subst h4
              have : F.length - 1 - (F.length - 3) = 2 := by omega
              rw [this]; simp [show F.length - 1 < F.length by omega]
            · rw [List.getElem?_eq_none (by omega), List.getElem?_eq_none (by simp; omega)]
    have hlen : (m ++ [xc, xr, xu]).length = m.length + 3 := by simp
    rw [hlen] at hcap hn h5 ⊢
    have hat : ∀ i x, (m ++ [xc, xr, xu])[i]? = some x → w.cell? ⟨g, i, none⟩ = some (.string ⟨x.toArray⟩) ∧ x.length ≤ 2000 := by
      intro i x hx
      obtain ⟨hi, rfl⟩ := List.getElem?_eq_some_iff.1 hx
      exact ⟨hc i hi, hl _ (List.getElem_mem hi)⟩
    obtain ⟨x0, h0⟩ : ∃ x, m[0]? = some x := ⟨_, List.getElem?_eq_getElem (by omega)⟩
    obtain ⟨x1, h1⟩ : ∃ x, m[1]? = some x := ⟨_, List.getElem?_eq_getElem (by omega)⟩
    obtain ⟨x2, h2⟩ : ∃ x, (m ++ [xc, xr, xu])[2]? = some x := ⟨_, List.getElem?_eq_getElem (by rw [hlen]; omega)⟩
    have a0 := hat 0 x0 (by rw [List.getElem?_append_left (by omega)]; exact h0)
    have a1 := hat 1 x1 (by rw [List.getElem?_append_left (by omega)]; exact h1)
    have a2 := hat 2 x2 h2
    have ac := hat m.length xc (by rw [List.getElem?_append_right (Nat.le_refl _)]; simp)
    have ar := hat (m.length + 1) xr (by rw [List.getElem?_append_right (by omega)]; simp)
    have au := hat (m.length + 2) xu (by rw [List.getElem?_append_right (by omega)]; simp)
    exact refSaid_long x0 x1 x2 m xc xr xu g cap w ⟨by omega, by omega⟩ hcap hg h0 h1 h2 a0.1 a1.1 a2.1 ac.1 ar.1 au.1 ⟨ar.2, au.2, a1.2, a2.2⟩

theorem refWords_arr (S : ByteArray) (l : List UInt8) (hS : S = ⟨l.toArray⟩) (w : World) (hl : l.length ≤ 2000) :
    Calls Tryz.prog 81 #[.string S] w fun e w' => ∃ v, e = .returned v ∧ w'.ownsRow w.heap.size 9 1 v (Sl.fields l).length (strV (Sl.fields l)) ∧ Below w.heap.size w w' := by
  subst hS; exact refWords_any l w hl

/-- An owned row's slice, as a slice. -/
theorem own_shape {w : World} {B e size n : Nat} {v : Value} {xs : List Value} (h : w.ownsRow B e size v n xs) : (v = .slice none 0 0 ∧ n = 0) ∨ ∃ g cap, v = .slice (some ⟨g, 0, none⟩) n cap ∧ n ≤ cap ∧ g < w.heap.size ∧ ∀ j u, xs[j]? = some u → w.cell? ⟨g, j, none⟩ = some u := by
  rcases h.2 with ⟨rfl, h2⟩ | ⟨g, cap, cur, rfl, _, hg, hcap, _⟩
  · exact .inl ⟨rfl, h2⟩
  · refine .inr ⟨g, cap, rfl, ?_, (Array.getElem?_eq_some_iff.1 hg).1, fun j u hu => ?_⟩
    · exact hcap
    · have := h.cells (g := g) rfl j u hu
      rw [addr_add] at this
      simpa using this

/-- Rows of two types share no block. -/
theorem own_apart {w : World} {B e size n B' e' size' n' : Nat} {v v' : Value} {xs xs' : List Value} (h : w.ownsRow B e size v n xs) (h' : w.ownsRow B' e' size' v' n' xs') (hne : e ≠ e') : v.ownBlock = none ∨ v.ownBlock ≠ v'.ownBlock := by
  rcases h.2 with ⟨rfl, _⟩ | ⟨g, cap, cur, rfl, _, hg, _⟩
  · exact .inl rfl
  · right
    rcases h'.2 with ⟨rfl, _⟩ | ⟨g', cap', cur', rfl, _, hg', _⟩
    · simp [Value.ownBlock]
    · simp only [Value.ownBlock]
      intro e1
      cases e1
      rw [hg] at hg'
      cases hg'
      exact hne rfl

theorem prefix_head {f : List UInt8} {b : UInt8} (h : f[0]? = some b) : Lib.hasPrefix f [35] = decide (b = 35) := by
  cases f with
  | nil => cases h
  | cons a r =>
    simp at h
    subst h
    have e : Lib.hasPrefix (a :: r) [35] = ((35 : UInt8) == a) := by simp [Lib.hasPrefix, List.isPrefixOf]
    rw [e, Bool.eq_iff_iff, beq_iff_eq, decide_eq_true_iff]
    exact ⟨fun h => h.symm, fun h => h.symm⟩

end Go.Proofs.YtapbajcmnngamaaGreatDoor
