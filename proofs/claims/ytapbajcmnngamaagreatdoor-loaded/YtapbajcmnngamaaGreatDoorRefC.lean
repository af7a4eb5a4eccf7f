/-
  The document's answer: what a line's words say.
-/
import Derived.Test.YtapbajcmnngamaaGreatDoorRefAB
namespace Go.Proofs.YtapbajcmnngamaaGreatDoor
open Go.RowKit Go.Maps Go.Sort

/-- A line that was said, as it lies in memory. -/
def saidC (s : Sl.Subj) (m : Sl.Lim) : List Value := [.int .i64 s.kind, .int .i64 s.cls, .string ⟨s.org.toArray⟩, .string ⟨s.ten.toArray⟩, .int .i64 m.rate, .int .i64 m.burst]
abbrev said6 (a0 a1 : Int) (s2 s3 : ByteArray) (a4 a5 : Int) : Value := .agg #[.int .i64 a0, .int .i64 a1, .string s2, .string s3, .int .i64 a4, .int .i64 a5]
def SaidP (o : Option (Sl.Subj × Sl.Lim)) (w : World) (e : Ending) (w' : World) : Prop := Below w.heap.size w w' ∧ ∃ (a0 a1 : Int) (s2 s3 : ByteArray) (a4 a5 : Int), e = .returned (.tuple #[said6 a0 a1 s2 s3 a4 a5, .bool o.isSome]) ∧
  ∀ s m, o = some (s, m) → a0 = s.kind ∧ a1 = s.cls ∧ s2 = ⟨s.org.toArray⟩ ∧ s3 = ⟨s.ten.toArray⟩ ∧ a4 = m.rate ∧ a5 = m.burst

theorem SaidP.no {w w' : World} {o : Option (Sl.Subj × Sl.Lim)} (ho : o = none) (hb : Below w.heap.size w w') (a0 a1 : Int) (s2 s3 : ByteArray) (a4 a5 : Int) : SaidP o w (.returned (.tuple #[said6 a0 a1 s2 s3 a4 a5, .bool false])) w' := by
  subst ho
  exact ⟨hb, a0, a1, s2, s3, a4, a5, rfl, fun s m h => by cases h⟩

theorem SaidP.yes {w w' : World} {o : Option (Sl.Subj × Sl.Lim)} {s : Sl.Subj} {m : Sl.Lim} (ho : o = some (s, m)) (hb : Below w.heap.size w w') (a0 a1 : Int) (s2 s3 : ByteArray) (a4 a5 : Int) (h : a0 = s.kind ∧ a1 = s.cls ∧ s2 = ⟨s.org.toArray⟩ ∧ s3 = ⟨s.ten.toArray⟩ ∧ a4 = m.rate ∧ a5 = m.burst) : SaidP o w (.returned (.tuple #[said6 a0 a1 s2 s3 a4 a5, .bool true])) w' := by
  subst ho
  exact ⟨hb, a0, a1, s2, s3, a4, a5, rfl, fun s m h => by cases h; exact ‹_›⟩

theorem below_two (w : World) (a b : Obj) : Below w.heap.size w ((w.alloc a).alloc b) := (Below.alloc1 w a).alloc (by simp) _

set_option maxRecDepth 100000 in
theorem refSaid_short (a : Option Addr) (n cap : Nat) (o : Option (Sl.Subj × Sl.Lim)) (ho : o = none) (w : World) (hn : (n : Int) < 5) :
    Calls Tryz.prog 82 #[.slice a n cap] w (SaidP o w) := by
  have HO := hide ho
  clear ho
  go_enter Tryz.func82, Tryz.ntmps82
  go_wp2
  exact bodyPost_ret (v := .tuple #[said6 0 0 ⟨#[]⟩ ⟨#[]⟩ 0 0, .bool false]) (by simp [results, Tryz.results82, go_sem]) rfl (.no (unhide HO) (below_two _ _ _) _ _ _ _ _ _)

theorem refName_arr (S : ByteArray) (l : List UInt8) (hS : S = ⟨l.toArray⟩) (w : World) (hl : l.length ≤ 281474976710656) :
    Calls Tryz.prog 85 #[.string S] w fun e w' => e = .returned (.bool (Sl.isName l)) ∧ w' = w := by
  subst hS; exact refName_any l w hl

theorem line_three (m : List (List UInt8)) (c r u : List UInt8) : Sl.line (m ++ [c, r, u]) = match Sl.classOf c with
    | none => none
    | some n => match Sl.owner m n with
      | none => none
      | some s => if 0 < Sl.number 1000000 r ∧ 0 < Sl.number 1000000 u then some (s, ⟨Sl.number 1000000 r, Sl.number 1000000 u⟩) else none := by
  have e : m ++ [c, r, u] = (m ++ [c]) ++ [r, u] := by simp
  rw [e, line_eq]
  unfold Sl.subject
  simp only [List.getLast?_append, List.getLast?_singleton, Option.some_or, List.dropLast_concat]
  cases Sl.classOf c with
  | none => rfl
  | some n =>
    simp only []
    cases Sl.owner m n with
    | none => rfl
    | some s => rfl

theorem two_of {m : List (List UInt8)} {x0 x1 : List UInt8} (h : m.length = 2) (h0 : m[0]? = some x0) (h1 : m[1]? = some x1) : m = [x0, x1] := by
  match m, h with
  | [a, b], _ => simp at h0 h1; rw [h0, h1]

theorem three_of {m : List (List UInt8)} {x0 x1 x2 : List UInt8} {r : List (List UInt8)} (h : m.length = 3) (h0 : m[0]? = some x0) (h1 : m[1]? = some x1) (h2 : (m ++ r)[2]? = some x2) : m = [x0, x1, x2] := by
  match m, h with
  | [a, b, c], _ => simp at h0 h1 h2; rw [h0, h1, h2]

theorem owner_many {m : List (List UInt8)} (c : Nat) (h : 4 ≤ m.length) : Sl.owner m c = none := by
  match m, h with
  | a :: b :: d :: e :: r, _ => rfl

def eqB (S : ByteArray) (l : List UInt8) : Bool := S.toList == l

theorem eqB_of (S : ByteArray) (x l : List UInt8) (hS : S = ⟨x.toArray⟩) : (S.toList == l) = decide (x = l) := by rw [Sl.str_eql, hS]

set_option maxRecDepth 100000 in
set_option maxHeartbeats 8000000 in
theorem refSaid_long (x0 x1 x2 : List UInt8) (m : List (List UInt8)) (xc xr xu : List UInt8) (b cap : Nat) (w : World) (hm : 2 ≤ m.length ∧ m.length ≤ 2000) (hcap : m.length + 3 ≤ cap) (hb : b < w.heap.size)
    (hm0 : m[0]? = some x0) (hm1 : m[1]? = some x1) (hm2 : (m ++ [xc, xr, xu])[2]? = some x2)
    (h0 : w.cell? ⟨b, 0, none⟩ = some (.string ⟨x0.toArray⟩)) (h1 : w.cell? ⟨b, 1, none⟩ = some (.string ⟨x1.toArray⟩)) (h2 : w.cell? ⟨b, 2, none⟩ = some (.string ⟨x2.toArray⟩))
    (hc : w.cell? ⟨b, m.length, none⟩ = some (.string ⟨xc.toArray⟩)) (hr : w.cell? ⟨b, m.length + 1, none⟩ = some (.string ⟨xr.toArray⟩)) (hu : w.cell? ⟨b, m.length + 2, none⟩ = some (.string ⟨xu.toArray⟩))
    (hl : xr.length ≤ 2000 ∧ xu.length ≤ 2000 ∧ x1.length ≤ 2000 ∧ x2.length ≤ 2000) :
    Calls Tryz.prog 82 #[.slice (some ⟨b, 0, none⟩) (m.length + 3) cap] w (SaidP (Sl.line (m ++ [xc, xr, xu])) w) := by
  have hline := line_three m xc xr xu
  generalize Sl.line (m ++ [xc, xr, xu]) = o at hline ⊢
  obtain ⟨X0, hX0⟩ : ∃ X : ByteArray, X = ⟨x0.toArray⟩ := ⟨_, rfl⟩
  obtain ⟨X1, hX1⟩ : ∃ X : ByteArray, X = ⟨x1.toArray⟩ := ⟨_, rfl⟩
  obtain ⟨X2, hX2⟩ : ∃ X : ByteArray, X = ⟨x2.toArray⟩ := ⟨_, rfl⟩
  rw [← hX0] at h0; rw [← hX1] at h1; rw [← hX2] at h2
  have d0 := eqB_of X0 x0 [100, 101, 102, 97, 117, 108, 116] hX0
  have g0 := eqB_of X0 x0 [111, 114, 103] hX0
  have t0 := eqB_of X0 x0 [116, 101, 110, 97, 110, 116] hX0
  have g1 := eqB_of X1 x1 [111, 114, 103] hX1
  have t1 := eqB_of X1 x1 [116, 101, 110, 97, 110, 116] hX1
  have HX1 := hide hX1; have HX2 := hide hX2
  have hk2 : 2 ≤ m.length := hm.1
  have hk3 : m.length ≤ 2000 := hm.2
  have HM0 := hide hm0; have HM1 := hide hm1; have HM2 := hide hm2
  have HLI := hide hline
  have hn5 : ¬ ((m.length : Int) + 3 < 5) := by omega
  obtain ⟨k, hk⟩ : ∃ k, k = m.length := ⟨_, rfl⟩
  rw [← hk] at hc hr hu hcap hn5 hk2 hk3 ⊢
  have HK := hide hk
  clear hk hm hm0 hm1 hm2 hline hX0 hX1 hX2
  have D0 := hide d0; have G0 := hide g0; have T0 := hide t0; have G1 := hide g1; have T1 := hide t1
  clear d0 g0 t0 g1 t1
  go_enter Tryz.func82, Tryz.ntmps82
  go_wp2_with fail
  refine (refClass_any xc _).mono ?_
  rintro e w1 ⟨rfl, rfl⟩
  generalize hci : classI xc = ci
  have HCI := hide hci; clear hci
  go_wp2_with fail
  refine (refFigure_any xr _ (by omega)).mono ?_
  rintro e w1 ⟨rfl, rfl⟩
  generalize hrn : Sl.number 1000000 xr = rn
  have HR := hide hrn; clear hrn
  go_wp2_with fail
  refine (refFigure_any xu _ (by omega)).mono ?_
  rintro e w1 ⟨rfl, rfl⟩
  generalize hun : Sl.number 1000000 xu = un
  have HU := hide hun; clear hun
  by_cases hcn : ci < 0
  · have ho : Hid (o = none) := hide (by
      rw [unhide HLI]
      have h := unhide HCI
      unfold classI at h
      cases hcl : Sl.classOf xc with
      | none => rfl
      | some c => rw [hcl] at h; simp at h; omega)
    go_wp2
    exact bodyPost_ret (v := .tuple #[said6 0 ci ⟨#[]⟩ ⟨#[]⟩ rn un, .bool false]) (by simp [results, Tryz.results82, go_sem]) rfl (.no (unhide ho) (below_two _ _ _) _ _ _ _ _ _)
  obtain ⟨c, hcl, hcc⟩ : ∃ c : Nat, Sl.classOf xc = some c ∧ ci = c := by
    have h := unhide HCI
    unfold classI at h
    cases hcl : Sl.classOf xc with
    | none => rw [hcl] at h; simp at h; omega
    | some c => rw [hcl] at h; exact ⟨c, rfl, h.symm⟩
  have hcn0 : (0 : Int) ≤ ci := by omega
  have HCC := hide hcc
  have HLJ := unhide HLI
  rw [hcl] at HLJ
  simp only [] at HLJ
  rw [unhide HR, unhide HU] at HLJ
  have HL := hide HLJ
  clear HLJ HLI hcl hcc hcn
  by_cases hr0 : rn = 0
  · have ho : Hid (o = none) := hide (by
      rw [unhide HL]
      cases Sl.owner m c with
      | none => rfl
      | some s => simp [hr0])
    subst hr0
    go_wp2
    exact bodyPost_ret (v := .tuple #[said6 0 ci ⟨#[]⟩ ⟨#[]⟩ 0 un, .bool false]) (by simp [results, Tryz.results82, go_sem]) rfl (.no (unhide ho) (below_two _ _ _) _ _ _ _ _ _)
  have hr1 : ((rn : Int) == 0) = false := by rw [beq_eq_false_iff_ne]; omega
  by_cases hu0 : un = 0
  · have ho : Hid (o = none) := hide (by
      rw [unhide HL]
      cases Sl.owner m c with
      | none => rfl
      | some s => simp [hu0])
    subst hu0
    clear hr0
    go_wp2
    exact bodyPost_ret (v := .tuple #[said6 0 ci ⟨#[]⟩ ⟨#[]⟩ rn 0, .bool false]) (by simp [results, Tryz.results82, go_sem]) rfl (.no (unhide ho) (below_two _ _ _) _ _ _ _ _ _)
  have hu1 : ((un : Int) == 0) = false := by rw [beq_eq_false_iff_ne]; omega
  have HP : Hid (0 < rn ∧ 0 < un) := hide ⟨by omega, by omega⟩
  clear hr0 hu0
  go_wp2_with fail
  refine (refName_arr X1 x1 (unhide HX1) _ (by omega)).mono ?_
  rintro e w1 ⟨rfl, rfl⟩
  generalize hn1 : Sl.isName x1 = n1
  have HN1 := hide hn1; clear hn1
  go_wp2_with fail
  refine (refName_arr X2 x2 (unhide HX2) _ (by omega)).mono ?_
  rintro e w1 ⟨rfl, rfl⟩
  generalize hn2 : Sl.isName x2 = n2
  have HN2 := hide hn2; clear hn2
  have hdo : Sl.defaultW ≠ Sl.orgW := by decide
  have hdt : Sl.defaultW ≠ Sl.tenantW := by decide
  have hot : Sl.orgW ≠ Sl.tenantW := by decide
  have HW := hide (And.intro hdo (And.intro hdt hot))
  clear hdo hdt hot
  by_cases h2k : k = 2
  · have hmm : m = [x0, x1] := two_of (by rw [← unhide HK]; exact h2k) (unhide HM0) (unhide HM1)
    have hown : Sl.owner m c = if x0 = Sl.defaultW ∧ x1 = Sl.orgW then some ⟨0, c, [], []⟩ else if x0 = Sl.defaultW ∧ x1 = Sl.tenantW then some ⟨1, c, [], []⟩ else if x0 = Sl.orgW ∧ Sl.isName x1 = true then some ⟨2, c, x1, []⟩ else none := by rw [hmm]; rfl
    have hL2 := unhide HL
    rw [hown] at hL2
    have HL2 := hide hL2
    clear hL2 hown hmm
    subst h2k
    by_cases a : x0 = Sl.defaultW
    · have d0 : (X0.toList == [100, 101, 102, 97, 117, 108, 116]) = true := by rw [unhide D0]; exact decide_eq_true a
      by_cases b1 : x1 = Sl.orgW
      · have g1 : (X1.toList == [111, 114, 103]) = true := by rw [unhide G1]; exact decide_eq_true b1
        have ho : Hid (o = some (⟨0, c, [], []⟩, ⟨rn, un⟩)) := hide (by rw [unhide HL2, if_pos ⟨a, b1⟩]; simp [unhide HP])
        clear a b1
        go_wp2
        exact bodyPost_ret (v := .tuple #[said6 0 ci ⟨#[]⟩ ⟨#[]⟩ rn un, .bool true]) (by simp [results, Tryz.results82, go_sem]) rfl (.yes (unhide ho) (below_two _ _ _) _ _ _ _ _ _ ⟨rfl, unhide HCC, rfl, rfl, rfl, rfl⟩)
      · have g1 : (X1.toList == [111, 114, 103]) = false := by rw [unhide G1]; exact decide_eq_false b1
        by_cases b2 : x1 = Sl.tenantW
        · have t1 : (X1.toList == [116, 101, 110, 97, 110, 116]) = true := by rw [unhide T1]; exact decide_eq_true b2
          have ho : Hid (o = some (⟨1, c, [], []⟩, ⟨rn, un⟩)) := hide (by rw [unhide HL2, if_neg (fun h => b1 h.2), if_pos ⟨a, b2⟩]; simp [unhide HP])
          clear a b1 b2
          go_wp2
          exact bodyPost_ret (v := .tuple #[said6 1 ci ⟨#[]⟩ ⟨#[]⟩ rn un, .bool true]) (by simp [results, Tryz.results82, go_sem]) rfl (.yes (unhide ho) (below_two _ _ _) _ _ _ _ _ _ ⟨rfl, unhide HCC, rfl, rfl, rfl, rfl⟩)
        · have t1 : (X1.toList == [116, 101, 110, 97, 110, 116]) = false := by rw [unhide T1]; exact decide_eq_false b2
          have g0 : (X0.toList == [111, 114, 103]) = false := by rw [unhide G0]; exact decide_eq_false (fun h => (unhide HW).1 (a.symm.trans h))
          have t0 : (X0.toList == [116, 101, 110, 97, 110, 116]) = false := by rw [unhide T0]; exact decide_eq_false (fun h => (unhide HW).2.1 (a.symm.trans h))
          have ho : Hid (o = none) := hide (by rw [unhide HL2, if_neg (fun h => b1 h.2), if_neg (fun h => b2 h.2), if_neg (fun h => (unhide HW).1 (a.symm.trans h.1))])
          clear a b1 b2
          go_wp2
          exact bodyPost_ret (v := .tuple #[said6 0 ci ⟨#[]⟩ ⟨#[]⟩ rn un, .bool false]) (by simp [results, Tryz.results82, go_sem]) rfl (.no (unhide ho) (below_two _ _ _) _ _ _ _ _ _)
    · have d0 : (X0.toList == [100, 101, 102, 97, 117, 108, 116]) = false := by rw [unhide D0]; exact decide_eq_false a
      by_cases b1 : x0 = Sl.orgW
      · have g0 : (X0.toList == [111, 114, 103]) = true := by rw [unhide G0]; exact decide_eq_true b1
        cases n1 with
        | true =>
          have ho : Hid (o = some (⟨2, c, x1, []⟩, ⟨rn, un⟩)) := hide (by rw [unhide HL2, if_neg (fun h => a h.1), if_neg (fun h => a h.1), if_pos ⟨b1, unhide HN1⟩]; simp [unhide HP])
          clear a b1
          go_wp2
          exact bodyPost_ret (v := .tuple #[said6 2 ci X1 ⟨#[]⟩ rn un, .bool true]) (by simp [results, Tryz.results82, go_sem]) rfl (.yes (unhide ho) (below_two _ _ _) _ _ _ _ _ _ ⟨rfl, unhide HCC, unhide HX1, rfl, rfl, rfl⟩)
        | false =>
          have ho : Hid (o = none) := hide (by rw [unhide HL2, if_neg (fun h => a h.1), if_neg (fun h => a h.1), if_neg (fun h => by rw [unhide HN1] at h; cases h.2)])
          clear a b1
          go_wp2
          exact bodyPost_ret (v := .tuple #[said6 2 ci X1 ⟨#[]⟩ rn un, .bool false]) (by simp [results, Tryz.results82, go_sem]) rfl (.no (unhide ho) (below_two _ _ _) _ _ _ _ _ _)
      · have g0 : (X0.toList == [111, 114, 103]) = false := by rw [unhide G0]; exact decide_eq_false b1
        have ho : Hid (o = none) := hide (by rw [unhide HL2, if_neg (fun h => a h.1), if_neg (fun h => a h.1), if_neg (fun h => b1 h.1)])
        clear a b1
        cases t0 : (X0.toList == [116, 101, 110, 97, 110, 116]) with
        | true =>
          go_wp2
          exact bodyPost_ret (v := .tuple #[said6 0 ci ⟨#[]⟩ ⟨#[]⟩ rn un, .bool false]) (by simp [results, Tryz.results82, go_sem]) rfl (.no (unhide ho) (below_two _ _ _) _ _ _ _ _ _)
        | false =>
          go_wp2
          exact bodyPost_ret (v := .tuple #[said6 0 ci ⟨#[]⟩ ⟨#[]⟩ rn un, .bool false]) (by simp [results, Tryz.results82, go_sem]) rfl (.no (unhide ho) (below_two _ _ _) _ _ _ _ _ _)
  have q5 : ((k : Int) + 3 == 5) = false := by rw [beq_eq_false_iff_ne]; omega
  by_cases a : x0 = Sl.tenantW
  · have d0 : (X0.toList == [100, 101, 102, 97, 117, 108, 116]) = false := by rw [unhide D0]; exact decide_eq_false (fun h => (unhide HW).2.1 (h.symm.trans a))
    have g0 : (X0.toList == [111, 114, 103]) = false := by rw [unhide G0]; exact decide_eq_false (fun h => (unhide HW).2.2 (h.symm.trans a))
    have t0 : (X0.toList == [116, 101, 110, 97, 110, 116]) = true := by rw [unhide T0]; exact decide_eq_true a
    by_cases h3k : k = 3
    · have hmm : m = [x0, x1, x2] := three_of (by rw [← unhide HK]; exact h3k) (unhide HM0) (unhide HM1) (unhide HM2)
      have hown : Sl.owner m c = if x0 = Sl.tenantW ∧ Sl.isName x1 = true ∧ Sl.isName x2 = true then some ⟨3, c, x1, x2⟩ else none := by rw [hmm]; rfl
      have hL2 := unhide HL
      rw [hown] at hL2
      have HL2 := hide hL2
      clear hL2 hown hmm q5 h2k
      subst h3k
      cases n1 with
      | true =>
        cases n2 with
        | true =>
          have ho : Hid (o = some (⟨3, c, x1, x2⟩, ⟨rn, un⟩)) := hide (by rw [unhide HL2, if_pos ⟨a, unhide HN1, unhide HN2⟩]; simp [unhide HP])
          clear a
          go_wp2
          exact bodyPost_ret (v := .tuple #[said6 3 ci X1 X2 rn un, .bool true]) (by simp [results, Tryz.results82, go_sem]) rfl (.yes (unhide ho) (below_two _ _ _) _ _ _ _ _ _ ⟨rfl, unhide HCC, unhide HX1, unhide HX2, rfl, rfl⟩)
        | false =>
          have ho : Hid (o = none) := hide (by rw [unhide HL2, if_neg (fun h => by rw [unhide HN2] at h; cases h.2.2)])
          clear a
          go_wp2
          exact bodyPost_ret (v := .tuple #[said6 3 ci X1 X2 rn un, .bool false]) (by simp [results, Tryz.results82, go_sem]) rfl (.no (unhide ho) (below_two _ _ _) _ _ _ _ _ _)
      | false =>
        have ho : Hid (o = none) := hide (by rw [unhide HL2, if_neg (fun h => by rw [unhide HN1] at h; cases h.2.1)])
        clear a
        go_wp2
        exact bodyPost_ret (v := .tuple #[said6 3 ci X1 X2 rn un, .bool false]) (by simp [results, Tryz.results82, go_sem]) rfl (.no (unhide ho) (below_two _ _ _) _ _ _ _ _ _)
    · have q6 : ((k : Int) + 3 == 6) = false := by rw [beq_eq_false_iff_ne]; omega
      have ho : Hid (o = none) := hide (by rw [unhide HL, owner_many c (by rw [← unhide HK]; omega)])
      clear a h3k h2k
      go_wp2
      exact bodyPost_ret (v := .tuple #[said6 0 ci ⟨#[]⟩ ⟨#[]⟩ rn un, .bool false]) (by simp [results, Tryz.results82, go_sem]) rfl (.no (unhide ho) (below_two _ _ _) _ _ _ _ _ _)
  · have t0 : (X0.toList == [116, 101, 110, 97, 110, 116]) = false := by rw [unhide T0]; exact decide_eq_false a
    have ho : Hid (o = none) := hide (by
      rw [unhide HL]
      by_cases h3k : k = 3
      · have hmm : m = [x0, x1, x2] := three_of (by rw [← unhide HK]; exact h3k) (unhide HM0) (unhide HM1) (unhide HM2)
        have hown : Sl.owner m c = if x0 = Sl.tenantW ∧ Sl.isName x1 = true ∧ Sl.isName x2 = true then some ⟨3, c, x1, x2⟩ else none := by rw [hmm]; rfl
        rw [hown, if_neg (fun h => a h.1)]
      · rw [owner_many c (by rw [← unhide HK]; omega)])
    clear a h2k
    cases d0 : (X0.toList == [100, 101, 102, 97, 117, 108, 116]) with
    | true =>
      have g0 : (X0.toList == [111, 114, 103]) = false := by
        rw [unhide D0] at d0
        rw [unhide G0]
        exact decide_eq_false (fun h => (unhide HW).1 ((of_decide_eq_true d0).symm.trans h))
      cases g1 : (X1.toList == [111, 114, 103]) with
      | true =>
        cases t1 : (X1.toList == [116, 101, 110, 97, 110, 116]) with
        | true =>
          go_wp2
          exact bodyPost_ret (v := .tuple #[said6 0 ci ⟨#[]⟩ ⟨#[]⟩ rn un, .bool false]) (by simp [results, Tryz.results82, go_sem]) rfl (.no (unhide ho) (below_two _ _ _) _ _ _ _ _ _)
        | false =>
          go_wp2
          exact bodyPost_ret (v := .tuple #[said6 0 ci ⟨#[]⟩ ⟨#[]⟩ rn un, .bool false]) (by simp [results, Tryz.results82, go_sem]) rfl (.no (unhide ho) (below_two _ _ _) _ _ _ _ _ _)
      | false =>
        cases t1 : (X1.toList == [116, 101, 110, 97, 110, 116]) with
        | true =>
          go_wp2
          exact bodyPost_ret (v := .tuple #[said6 0 ci ⟨#[]⟩ ⟨#[]⟩ rn un, .bool false]) (by simp [results, Tryz.results82, go_sem]) rfl (.no (unhide ho) (below_two _ _ _) _ _ _ _ _ _)
        | false =>
          go_wp2
          exact bodyPost_ret (v := .tuple #[said6 0 ci ⟨#[]⟩ ⟨#[]⟩ rn un, .bool false]) (by simp [results, Tryz.results82, go_sem]) rfl (.no (unhide ho) (below_two _ _ _) _ _ _ _ _ _)
    | false =>
      cases g0 : (X0.toList == [111, 114, 103]) with
      | true =>
        go_wp2
        exact bodyPost_ret (v := .tuple #[said6 0 ci ⟨#[]⟩ ⟨#[]⟩ rn un, .bool false]) (by simp [results, Tryz.results82, go_sem]) rfl (.no (unhide ho) (below_two _ _ _) _ _ _ _ _ _)
      | false =>
        go_wp2
        exact bodyPost_ret (v := .tuple #[said6 0 ci ⟨#[]⟩ ⟨#[]⟩ rn un, .bool false]) (by simp [results, Tryz.results82, go_sem]) rfl (.no (unhide ho) (below_two _ _ _) _ _ _ _ _ _)

end Go.Proofs.YtapbajcmnngamaaGreatDoor
