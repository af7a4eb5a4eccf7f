/-
  The document's answer: what a line's words say.
  The document's answer: the place of a line that speaks of something.
  The document's answer: the order of lines; numbers in decimals; the limit of a bucket.
  The document's answer: the limit of a bucket, Limit.
  The document's answer: Limit.
  The document's answer: what Read stands on: plain facts on lines, and what said answers for whatever words.
-/
import Derived.Test.YthmhfilkgggagaaGreatDoorRefAB
namespace Go.Proofs.YthmhfilkgggagaaGreatDoor
open Go.RowKit Go.Maps Go.Sort

/-- A line that was said, as it lies in memory. -/
def saidC (s : Sl.Subj) (m : Sl.Lim) : List Value := [.int .i64 s.kind, .int .i64 s.cls, .string ⟨s.org.toArray⟩, .string ⟨s.ten.toArray⟩, .int .i64 m.rate, .int .i64 m.burst]
abbrev said6 (a0 a1 : Int) (s2 s3 : ByteArray) (a4 a5 : Int) : Value := .agg #[.int .i64 a0, .int .i64 a1, .string s2, .string s3, .int .i64 a4, .int .i64 a5]
def SaidP (o : Option (Sl.Subj × Sl.Lim)) (w : World) (e : Ending) (w' : World) : Prop := Below w.heap.size w w' ∧ ∃ (a0 a1 : Int) (s2 s3 : ByteArray) (a4 a5 : Int), e = .returned (.tuple #[said6 a0 a1 s2 s3 a4 a5, .bool o.isSome]) ∧
  ∀ s m, o = some (s, m) → a0 = s.kind ∧ a1 = s.cls ∧ s2 = ⟨s.org.toArray⟩ ∧ s3 = ⟨s.ten.toArray⟩ ∧ a4 = m.rate ∧ a5 = m.burst

theorem SaidP.no {w w' : World} {o : Option (Sl.Subj × Sl.Lim)} (ho : o = none) (hb : Below w.heap.size w w') (a0 a1 : Int) (s2 s3 : ByteArray) (a4 a5 : Int) : SaidP o w (.returned (.tuple #[said6 a0 a1 s2 s3 a4 a5, .bool false])) w' := by
  subst ho
  exact ⟨hb, a0, a1, s2, s3, a4, a5, rfl, fun s m h => by cases h⟩

theorem SaidP.yes {w w' : World} {o : Option (Sl.Subj × Sl.Lim)} {s : Sl.Subj} {m : Sl.Lim} (ho : o = some (s, m)) (hb : Below w.heap.size w w') (a0 a1 : Int) (s2 s3 : ByteArray) (a4 a5 : Int) (h : a0 = s.kind ∧ a1 = s.cls ∧ s2 = ⟨s.org.toArray⟩ ∧ s3 = ⟨s.ten.toArray⟩ ∧ a4 = m.rate ∧ a5 = m.burst) : SaidP o w (.returned (.tuple #[said6 a0 a1 s2 s3 a4 a5, .bool true])) w' := by
  subst ho
  exact ⟨hb, a0, a1, s2, s3, a4, a5, rfl, fun s m h => by cases h; exact ‹_›⟩

theorem below_two (w : World) (a b : Obj) : Below w.heap.size w ((w.alloc a).alloc b) := (Below.alloc1 w a).alloc (by simp) _

set_option maxRecDepth 100000 in
theorem refSaid_short (a : Option Addr) (n cap : Nat) (o : Option (Sl.Subj × Sl.Lim)) (ho : o = none) (w : World) (hn : (n : Int) < 5) :
    Calls Tryz.prog 140 #[.slice a n cap] w (SaidP o w) := by
  have HO := hide ho
  clear ho
  go_enter Tryz.func140, Tryz.ntmps140
  go_wp2
  exact bodyPost_ret (v := .tuple #[said6 0 0 ⟨#[]⟩ ⟨#[]⟩ 0 0, .bool false]) (by simp [results, Tryz.results140, go_sem]) rfl (.no (unhide HO) (below_two _ _ _) _ _ _ _ _ _)

theorem refName_arr (S : ByteArray) (l : List UInt8) (hS : S = ⟨l.toArray⟩) (w : World) (hl : l.length ≤ 281474976710656) :
    Calls Tryz.prog 143 #[.string S] w fun e w' => e = .returned (.bool (Sl.isName l)) ∧ w' = w := by
  subst hS; exact refName_any l w hl

theorem line_three (m : List (List UInt8)) (c r u : List UInt8) : Sl.line (m ++ [c, r, u]) = match Sl.classOf c with
    | none => none
    | some n => match Sl.owner m n with
      | none => none
      | some s => if 0 < Sl.number 1000000 r ∧ 0 < Sl.number 1000000 u then some (s, ⟨Sl.number 1000000 r, Sl.number 1000000 u⟩) else none := by
  have e : m ++ [c, r, u] = (m ++ [c]) ++ [r, u] := by simp
  rw [e, line_eq]
  unfold Sl.subject
  simp only [List.getLast?_append, List.getLast?_singleton, Option.some_or, List.dropLast_concat]
  cases Sl.classOf c with
  | none => rfl
  | some n =>
    simp only []
    cases Sl.owner m n with
    | none => rfl
    | some s => rfl

theorem two_of {m : List (List UInt8)} {x0 x1 : List UInt8} (h : m.length = 2) (h0 : m[0]? = some x0) (h1 : m[1]? = some x1) : m = [x0, x1] := by
  match m, h with
  | [a, b], _ => simp at h0 h1; rw [h0, h1]

theorem three_of {m : List (List UInt8)} {x0 x1 x2 : List UInt8} {r : List (List UInt8)} (h : m.length = 3) (h0 : m[0]? = some x0) (h1 : m[1]? = some x1) (h2 : (m ++ r)[2]? = some x2) : m = [x0, x1, x2] := by
  match m, h with
  | [a, b, c], _ => simp at h0 h1 h2; rw [h0, h1, h2]

theorem owner_many {m : List (List UInt8)} (c : Nat) (h : 4 ≤ m.length) : Sl.owner m c = none := by
  match m, h with
  | a :: b :: d :: e :: r, _ => rfl

def eqB (S : ByteArray) (l : List UInt8) : Bool := S.toList == l

theorem eqB_of (S : ByteArray) (x l : List UInt8) (hS : S = ⟨x.toArray⟩) : (S.toList == l) = decide (x = l) := by rw [Sl.str_eql, hS]

set_option maxRecDepth 100000 in
set_option maxHeartbeats 8000000 in
theorem refSaid_long (x0 x1 x2 : List UInt8) (m : List (List UInt8)) (xc xr xu : List UInt8) (b cap : Nat) (w : World) (hm : 2 ≤ m.length ∧ m.length ≤ 2000) (hcap : m.length + 3 ≤ cap) (hb : b < w.heap.size)
    (hm0 : m[0]? = some x0) (hm1 : m[1]? = some x1) (hm2 : (m ++ [xc, xr, xu])[2]? = some x2)
    (h0 : w.cell? ⟨b, 0, none⟩ = some (.string ⟨x0.toArray⟩)) (h1 : w.cell? ⟨b, 1, none⟩ = some (.string ⟨x1.toArray⟩)) (h2 : w.cell? ⟨b, 2, none⟩ = some (.string ⟨x2.toArray⟩))
    (hc : w.cell? ⟨b, m.length, none⟩ = some (.string ⟨xc.toArray⟩)) (hr : w.cell? ⟨b, m.length + 1, none⟩ = some (.string ⟨xr.toArray⟩)) (hu : w.cell? ⟨b, m.length + 2, none⟩ = some (.string ⟨xu.toArray⟩))
    (hl : xr.length ≤ 2000 ∧ xu.length ≤ 2000 ∧ x1.length ≤ 2000 ∧ x2.length ≤ 2000) :
    Calls Tryz.prog 140 #[.slice (some ⟨b, 0, none⟩) (m.length + 3) cap] w (SaidP (Sl.line (m ++ [xc, xr, xu])) w) := by
  have hline := line_three m xc xr xu
  generalize Sl.line (m ++ [xc, xr, xu]) = o at hline ⊢
  obtain ⟨X0, hX0⟩ : ∃ X : ByteArray, X = ⟨x0.toArray⟩ := ⟨_, rfl⟩
  obtain ⟨X1, hX1⟩ : ∃ X : ByteArray, X = ⟨x1.toArray⟩ := ⟨_, rfl⟩
  obtain ⟨X2, hX2⟩ : ∃ X : ByteArray, X = ⟨x2.toArray⟩ := ⟨_, rfl⟩
  rw [← hX0] at h0; rw [← hX1] at h1; rw [← hX2] at h2
  have d0 := eqB_of X0 x0 [100, 101, 102, 97, 117, 108, 116] hX0
  have g0 := eqB_of X0 x0 [111, 114, 103] hX0
  have t0 := eqB_of X0 x0 [116, 101, 110, 97, 110, 116] hX0
  have g1 := eqB_of X1 x1 [111, 114, 103] hX1
  have t1 := eqB_of X1 x1 [116, 101, 110, 97, 110, 116] hX1
  have HX1 := hide hX1; have HX2 := hide hX2
  have hk2 : 2 ≤ m.length := hm.1
  have hk3 : m.length ≤ 2000 := hm.2
  have HM0 := hide hm0; have HM1 := hide hm1; have HM2 := hide hm2
  have HLI := hide hline
  have hn5 : ¬ ((m.length : Int) + 3 < 5) := by omega
  obtain ⟨k, hk⟩ : ∃ k, k = m.length := ⟨_, rfl⟩
  rw [← hk] at hc hr hu hcap hn5 hk2 hk3 ⊢
  have HK := hide hk
  clear hk hm hm0 hm1 hm2 hline hX0 hX1 hX2
  have D0 := hide d0; have G0 := hide g0; have T0 := hide t0; have G1 := hide g1; have T1 := hide t1
  clear d0 g0 t0 g1 t1
  go_enter Tryz.func140, Tryz.ntmps140
  go_wp2_with fail
  refine (refClass_any xc _).mono ?_
  rintro e w1 ⟨rfl, rfl⟩
  generalize hci : classI xc = ci
  have HCI := hide hci; clear hci
  go_wp2_with fail
  refine (refFigure_any xr _ (by omega)).mono ?_
  rintro e w1 ⟨rfl, rfl⟩
  generalize hrn : Sl.number 1000000 xr = rn
  have HR := hide hrn; clear hrn
  go_wp2_with fail
  refine (refFigure_any xu _ (by omega)).mono ?_
  rintro e w1 ⟨rfl, rfl⟩
  generalize hun : Sl.number 1000000 xu = un
  have HU := hide hun; clear hun
  by_cases hcn : ci < 0
  · have ho : Hid (o = none) := hide (by
      rw [unhide HLI]
      have h := unhide HCI
      unfold classI at h
      cases hcl : Sl.classOf xc with
      | none => rfl
      | some c => rw [hcl] at h; simp at h; omega)
    go_wp2
    exact bodyPost_ret (v := .tuple #[said6 0 ci ⟨#[]⟩ ⟨#[]⟩ rn un, .bool false]) (by simp [results, Tryz.results140, go_sem]) rfl (.no (unhide ho) (below_two _ _ _) _ _ _ _ _ _)
  obtain ⟨c, hcl, hcc⟩ : ∃ c : Nat, Sl.classOf xc = some c ∧ ci = c := by
    have h := unhide HCI
    unfold classI at h
    cases hcl : Sl.classOf xc with
    | none => rw [hcl] at h; simp at h; omega
    | some c => rw [hcl] at h; exact ⟨c, rfl, h.symm⟩
  have hcn0 : (0 : Int) ≤ ci := by omega
  have HCC := hide hcc
  have HLJ := unhide HLI
  rw [hcl] at HLJ
  simp only [] at HLJ
  rw [unhide HR, unhide HU] at HLJ
  have HL := hide HLJ
  clear HLJ HLI hcl hcc hcn
  by_cases hr0 : rn = 0
  · have ho : Hid (o = none) := hide (by
      rw [unhide HL]
      cases Sl.owner m c with
      | none => rfl
      | some s => simp [hr0])
    subst hr0
    go_wp2
    exact bodyPost_ret (v := .tuple #[said6 0 ci ⟨#[]⟩ ⟨#[]⟩ 0 un, .bool false]) (by simp [results, Tryz.results140, go_sem]) rfl (.no (unhide ho) (below_two _ _ _) _ _ _ _ _ _)
  have hr1 : ((rn : Int) == 0) = false := by rw [beq_eq_false_iff_ne]; omega
  by_cases hu0 : un = 0
  · have ho : Hid (o = none) := hide (by
      rw [unhide HL]
      cases Sl.owner m c with
      | none => rfl
      | some s => simp [hu0])
    subst hu0
    clear hr0
    go_wp2
    exact bodyPost_ret (v := .tuple #[said6 0 ci ⟨#[]⟩ ⟨#[]⟩ rn 0, .bool false]) (by simp [results, Tryz.results140, go_sem]) rfl (.no (unhide ho) (below_two _ _ _) _ _ _ _ _ _)
  have hu1 : ((un : Int) == 0) = false := by rw [beq_eq_false_iff_ne]; omega
  have HP : Hid (0 < rn ∧ 0 < un) := hide ⟨by omega, by omega⟩
  clear hr0 hu0
  go_wp2_with fail
  refine (refName_arr X1 x1 (unhide HX1) _ (by omega)).mono ?_
  rintro e w1 ⟨rfl, rfl⟩
  generalize hn1 : Sl.isName x1 = n1
  have HN1 := hide hn1; clear hn1
  go_wp2_with fail
  refine (refName_arr X2 x2 (unhide HX2) _ (by omega)).mono ?_
  rintro e w1 ⟨rfl, rfl⟩
  generalize hn2 : Sl.isName x2 = n2
  have HN2 := hide hn2; clear hn2
  have hdo : Sl.defaultW ≠ Sl.orgW := by decide
  have hdt : Sl.defaultW ≠ Sl.tenantW := by decide
  have hot : Sl.orgW ≠ Sl.tenantW := by decide
  have HW := hide (And.intro hdo (And.intro hdt hot))
  clear hdo hdt hot
  by_cases h2k : k = 2
  · have hmm : m = [x0, x1] := two_of (by rw [← unhide HK]; exact h2k) (unhide HM0) (unhide HM1)
    have hown : Sl.owner m c = if x0 = Sl.defaultW ∧ x1 = Sl.orgW then some ⟨0, c, [], []⟩ else if x0 = Sl.defaultW ∧ x1 = Sl.tenantW then some ⟨1, c, [], []⟩ else if x0 = Sl.orgW ∧ Sl.isName x1 = true then some ⟨2, c, x1, []⟩ else none := by rw [hmm]; rfl
    have hL2 := unhide HL
    rw [hown] at hL2
    have HL2 := hide hL2
    clear hL2 hown hmm
    subst h2k
    by_cases a : x0 = Sl.defaultW
    · have d0 : (X0.toList == [100, 101, 102, 97, 117, 108, 116]) = true := by rw [unhide D0]; exact decide_eq_true a
      by_cases b1 : x1 = Sl.orgW
      · have g1 : (X1.toList == [111, 114, 103]) = true := by rw [unhide G1]; exact decide_eq_true b1
        have ho : Hid (o = some (⟨0, c, [], []⟩, ⟨rn, un⟩)) := hide (by rw [unhide HL2, if_pos ⟨a, b1⟩]; simp [unhide HP])
        clear a b1
        go_wp2
        exact bodyPost_ret (v := .tuple #[said6 0 ci ⟨#[]⟩ ⟨#[]⟩ rn un, .bool true]) (by simp [results, Tryz.results140, go_sem]) rfl (.yes (unhide ho) (below_two _ _ _) _ _ _ _ _ _ ⟨rfl, unhide HCC, rfl, rfl, rfl, rfl⟩)
      · have g1 : (X1.toList == [111, 114, 103]) = false := by rw [unhide G1]; exact decide_eq_false b1
        by_cases b2 : x1 = Sl.tenantW
        · have t1 : (X1.toList == [116, 101, 110, 97, 110, 116]) = true := by rw [unhide T1]; exact decide_eq_true b2
          have ho : Hid (o = some (⟨1, c, [], []⟩, ⟨rn, un⟩)) := hide (by rw [unhide HL2, if_neg (fun h => b1 h.2), if_pos ⟨a, b2⟩]; simp [unhide HP])
          clear a b1 b2
          go_wp2
          exact bodyPost_ret (v := .tuple #[said6 1 ci ⟨#[]⟩ ⟨#[]⟩ rn un, .bool true]) (by simp [results, Tryz.results140, go_sem]) rfl (.yes (unhide ho) (below_two _ _ _) _ _ _ _ _ _ ⟨rfl, unhide HCC, rfl, rfl, rfl, rfl⟩)
        · have t1 : (X1.toList == [116, 101, 110, 97, 110, 116]) = false := by rw [unhide T1]; exact decide_eq_false b2
          have g0 : (X0.toList == [111, 114, 103]) = false := by rw [unhide G0]; exact decide_eq_false (fun h => (unhide HW).1 (a.symm.trans h))
          have t0 : (X0.toList == [116, 101, 110, 97, 110, 116]) = false := by rw [unhide T0]; exact decide_eq_false (fun h => (unhide HW).2.1 (a.symm.trans h))
          have ho : Hid (o = none) := hide (by rw [unhide HL2, if_neg (fun h => b1 h.2), if_neg (fun h => b2 h.2), if_neg (fun h => (unhide HW).1 (a.symm.trans h.1))])
          clear a b1 b2
          go_wp2
          exact bodyPost_ret (v := .tuple #[said6 0 ci ⟨#[]⟩ ⟨#[]⟩ rn un, .bool false]) (by simp [results, Tryz.results140, go_sem]) rfl (.no (unhide ho) (below_two _ _ _) _ _ _ _ _ _)
    · have d0 : (X0.toList == [100, 101, 102, 97, 117, 108, 116]) = false := by rw [unhide D0]; exact decide_eq_false a
      by_cases b1 : x0 = Sl.orgW
      · have g0 : (X0.toList == [111, 114, 103]) = true := by rw [unhide G0]; exact decide_eq_true b1
        cases n1 with
        | true =>
          have ho : Hid (o = some (⟨2, c, x1, []⟩, ⟨rn, un⟩)) := hide (by rw [unhide HL2, if_neg (fun h => a h.1), if_neg (fun h => a h.1), if_pos ⟨b1, unhide HN1⟩]; simp [unhide HP])
          clear a b1
          go_wp2
          exact bodyPost_ret (v := .tuple #[said6 2 ci X1 ⟨#[]⟩ rn un, .bool true]) (by simp [results, Tryz.results140, go_sem]) rfl (.yes (unhide ho) (below_two _ _ _) _ _ _ _ _ _ ⟨rfl, unhide HCC, unhide HX1, rfl, rfl, rfl⟩)
        | false =>
          have ho : Hid (o = none) := hide (by rw [unhide HL2, if_neg (fun h => a h.1), if_neg (fun h => a h.1), if_neg (fun h => by rw [unhide HN1] at h; cases h.2)])
          clear a b1
          go_wp2
          exact bodyPost_ret (v := .tuple #[said6 2 ci X1 ⟨#[]⟩ rn un, .bool false]) (by simp [results, Tryz.results140, go_sem]) rfl (.no (unhide ho) (below_two _ _ _) _ _ _ _ _ _)
      · have g0 : (X0.toList == [111, 114, 103]) = false := by rw [unhide G0]; exact decide_eq_false b1
        have ho : Hid (o = none) := hide (by rw [unhide HL2, if_neg (fun h => a h.1), if_neg (fun h => a h.1), if_neg (fun h => b1 h.1)])
        clear a b1
        cases t0 : (X0.toList == [116, 101, 110, 97, 110, 116]) with
        | true =>
          go_wp2
          exact bodyPost_ret (v := .tuple #[said6 0 ci ⟨#[]⟩ ⟨#[]⟩ rn un, .bool false]) (by simp [results, Tryz.results140, go_sem]) rfl (.no (unhide ho) (below_two _ _ _) _ _ _ _ _ _)
        | false =>
          go_wp2
          exact bodyPost_ret (v := .tuple #[said6 0 ci ⟨#[]⟩ ⟨#[]⟩ rn un, .bool false]) (by simp [results, Tryz.results140, go_sem]) rfl (.no (unhide ho) (below_two _ _ _) _ _ _ _ _ _)
  have q5 : ((k : Int) + 3 == 5) = false := by rw [beq_eq_false_iff_ne]; omega
  by_cases a : x0 = Sl.tenantW
  · have d0 : (X0.toList == [100, 101, 102, 97, 117, 108, 116]) = false := by rw [unhide D0]; exact decide_eq_false (fun h => (unhide HW).2.1 (h.symm.trans a))
    have g0 : (X0.toList == [111, 114, 103]) = false := by rw [unhide G0]; exact decide_eq_false (fun h => (unhide HW).2.2 (h.symm.trans a))
    have t0 : (X0.toList == [116, 101, 110, 97, 110, 116]) = true := by rw [unhide T0]; exact decide_eq_true a
    by_cases h3k : k = 3
    · have hmm : m = [x0, x1, x2] := three_of (by rw [← unhide HK]; exact h3k) (unhide HM0) (unhide HM1) (unhide HM2)
      have hown : Sl.owner m c = if x0 = Sl.tenantW ∧ Sl.isName x1 = true ∧ Sl.isName x2 = true then some ⟨3, c, x1, x2⟩ else none := by rw [hmm]; rfl
      have hL2 := unhide HL
      rw [hown] at hL2
      have HL2 := hide hL2
      clear hL2 hown hmm q5 h2k
      subst h3k
      cases n1 with
      | true =>
        cases n2 with
        | true =>
          have ho : Hid (o = some (⟨3, c, x1, x2⟩, ⟨rn, un⟩)) := hide (by rw [unhide HL2, if_pos ⟨a, unhide HN1, unhide HN2⟩]; simp [unhide HP])
          clear a
          go_wp2
          exact bodyPost_ret (v := .tuple #[said6 3 ci X1 X2 rn un, .bool true]) (by simp [results, Tryz.results140, go_sem]) rfl (.yes (unhide ho) (below_two _ _ _) _ _ _ _ _ _ ⟨rfl, unhide HCC, unhide HX1, unhide HX2, rfl, rfl⟩)
        | false =>
          have ho : Hid (o = none) := hide (by rw [unhide HL2, if_neg (fun h => by rw [unhide HN2] at h; cases h.2.2)])
          clear a
          go_wp2
          exact bodyPost_ret (v := .tuple #[said6 3 ci X1 X2 rn un, .bool false]) (by simp [results, Tryz.results140, go_sem]) rfl (.no (unhide ho) (below_two _ _ _) _ _ _ _ _ _)
      | false =>
        have ho : Hid (o = none) := hide (by rw [unhide HL2, if_neg (fun h => by rw [unhide HN1] at h; cases h.2.1)])
        clear a
        go_wp2
        exact bodyPost_ret (v := .tuple #[said6 3 ci X1 X2 rn un, .bool false]) (by simp [results, Tryz.results140, go_sem]) rfl (.no (unhide ho) (below_two _ _ _) _ _ _ _ _ _)
    · have q6 : ((k : Int) + 3 == 6) = false := by rw [beq_eq_false_iff_ne]; omega
      have ho : Hid (o = none) := hide (by rw [unhide HL, owner_many c (by rw [← unhide HK]; omega)])
      clear a h3k h2k
      go_wp2
      exact bodyPost_ret (v := .tuple #[said6 0 ci ⟨#[]⟩ ⟨#[]⟩ rn un, .bool false]) (by simp [results, Tryz.results140, go_sem]) rfl (.no (unhide ho) (below_two _ _ _) _ _ _ _ _ _)
  · have t0 : (X0.toList == [116, 101, 110, 97, 110, 116]) = false := by rw [unhide T0]; exact decide_eq_false a
    have ho : Hid (o = none) := hide (by
      rw [unhide HL]
      by_cases h3k : k = 3
      · have hmm : m = [x0, x1, x2] := three_of (by rw [← unhide HK]; exact h3k) (unhide HM0) (unhide HM1) (unhide HM2)
        have hown : Sl.owner m c = if x0 = Sl.tenantW ∧ Sl.isName x1 = true ∧ Sl.isName x2 = true then some ⟨3, c, x1, x2⟩ else none := by rw [hmm]; rfl
        rw [hown, if_neg (fun h => a h.1)]
      · rw [owner_many c (by rw [← unhide HK]; omega)])
    clear a h2k
    cases d0 : (X0.toList == [100, 101, 102, 97, 117, 108, 116]) with
    | true =>
      have g0 : (X0.toList == [111, 114, 103]) = false := by
        rw [unhide D0] at d0
        rw [unhide G0]
        exact decide_eq_false (fun h => (unhide HW).1 ((of_decide_eq_true d0).symm.trans h))
      cases g1 : (X1.toList == [111, 114, 103]) with
      | true =>
        cases t1 : (X1.toList == [116, 101, 110, 97, 110, 116]) with
        | true =>
          go_wp2
          exact bodyPost_ret (v := .tuple #[said6 0 ci ⟨#[]⟩ ⟨#[]⟩ rn un, .bool false]) (by simp [results, Tryz.results140, go_sem]) rfl (.no (unhide ho) (below_two _ _ _) _ _ _ _ _ _)
        | false =>
          go_wp2
          exact bodyPost_ret (v := .tuple #[said6 0 ci ⟨#[]⟩ ⟨#[]⟩ rn un, .bool false]) (by simp [results, Tryz.results140, go_sem]) rfl (.no (unhide ho) (below_two _ _ _) _ _ _ _ _ _)
      | false =>
        cases t1 : (X1.toList == [116, 101, 110, 97, 110, 116]) with
        | true =>
          go_wp2
          exact bodyPost_ret (v := .tuple #[said6 0 ci ⟨#[]⟩ ⟨#[]⟩ rn un, .bool false]) (by simp [results, Tryz.results140, go_sem]) rfl (.no (unhide ho) (below_two _ _ _) _ _ _ _ _ _)
        | false =>
          go_wp2
          exact bodyPost_ret (v := .tuple #[said6 0 ci ⟨#[]⟩ ⟨#[]⟩ rn un, .bool false]) (by simp [results, Tryz.results140, go_sem]) rfl (.no (unhide ho) (below_two _ _ _) _ _ _ _ _ _)
    | false =>
      cases g0 : (X0.toList == [111, 114, 103]) with
      | true =>
        go_wp2
        exact bodyPost_ret (v := .tuple #[said6 0 ci ⟨#[]⟩ ⟨#[]⟩ rn un, .bool false]) (by simp [results, Tryz.results140, go_sem]) rfl (.no (unhide ho) (below_two _ _ _) _ _ _ _ _ _)
      | false =>
        go_wp2
        exact bodyPost_ret (v := .tuple #[said6 0 ci ⟨#[]⟩ ⟨#[]⟩ rn un, .bool false]) (by simp [results, Tryz.results140, go_sem]) rfl (.no (unhide ho) (below_two _ _ _) _ _ _ _ _ _)

end Go.Proofs.YthmhfilkgggagaaGreatDoor

namespace Go.Proofs.YthmhfilkgggagaaGreatDoor
open Go.RowKit Go.Maps Go.Sort

def saidAll (l : List (Sl.Subj × Sl.Lim)) : List Value := l.flatMap fun x => saidC x.1 x.2

theorem saidAll_snoc (l : List (Sl.Subj × Sl.Lim)) (x : Sl.Subj × Sl.Lim) : saidAll (l ++ [x]) = saidAll l ++ saidC x.1 x.2 := by simp [saidAll]

theorem saidAll_at : ∀ (l : List (Sl.Subj × Sl.Lim)) (k : Nat) (hk : k < l.length) (j : Nat), j < 6 → (saidAll l)[k * 6 + j]? = (saidC l[k].1 l[k].2)[j]?
  | [], k, hk, _, _ => by simp at hk
  | x :: r, 0, _, j, hj => by
    show (saidC x.1 x.2 ++ saidAll r)[0 * 6 + j]? = _
    rw [List.getElem?_append_left (by simp [saidC]; omega)]; simp
  | x :: r, k + 1, hk, j, hj => by
    show (saidC x.1 x.2 ++ saidAll r)[(k + 1) * 6 + j]? = _
    rw [List.getElem?_append_right (by simp [saidC]; omega)]
    have e : (k + 1) * 6 + j - (saidC x.1 x.2).length = k * 6 + j := by simp [saidC]; omega
    rw [e, saidAll_at r k (by simpa using hk) j hj]; rfl

/-- The list of lines, as a slice. -/
def RefL (w : World) (v : Value) (l : List (Sl.Subj × Sl.Lim)) : Prop := (v = .slice none 0 0 ∧ l = []) ∨ ∃ g cap, v = .slice (some ⟨g, 0, none⟩) l.length cap ∧ g < w.heap.size ∧ ∀ j u, (saidAll l)[j]? = some u → w.cell? ⟨g, j, none⟩ = some u

theorem RefL.below {w w' : World} {v : Value} {l : List (Sl.Subj × Sl.Lim)} (h : RefL w v l) (hb : Below w.heap.size w w') : RefL w' v l := by
  rcases h with h | ⟨g, cap, rfl, hg, hc⟩
  · exact .inl h
  · exact .inr ⟨g, cap, rfl, Nat.lt_of_lt_of_le hg hb.size, fun j u hu => (hb.cell (p := ⟨g, j, none⟩) hg).trans (hc j u hu)⟩

theorem RefL.grown {w w' : World} {v : Value} {l : List (Sl.Subj × Sl.Lim)} {row : Option Nat} (h : RefL w v l) (hb : w.grownBy w' row) (hne : v.ownBlock = none ∨ v.ownBlock ≠ row) : RefL w' v l := by
  rcases h with h | ⟨g, cap, rfl, hg, hc⟩
  · exact .inl h
  · refine .inr ⟨g, cap, rfl, Nat.lt_of_lt_of_le hg hb.size, fun j u hu => ?_⟩
    rw [← hc j u hu]
    exact World.cell?_of_block (hb.block g hg (by
      rcases hne with hne | hne
      · simp [Value.ownBlock] at hne
      · simpa [Value.ownBlock] using hne))

theorem RefL.own {w : World} {base n : Nat} {v : Value} {l : List (Sl.Subj × Sl.Lim)} (h : w.ownsRow base 178 6 v n (saidAll l)) (hn : n = l.length) : RefL w v l := by
  subst hn
  rcases h.2 with ⟨rfl, h2⟩ | ⟨g, cap, cur, rfl, h1, hg, _⟩
  · left
    refine ⟨rfl, ?_⟩
    cases l with
    | nil => rfl
    | cons x r => simp at h2
  · right
    refine ⟨g, cap, rfl, (Array.getElem?_eq_some_iff.1 hg).1, fun j u hu => ?_⟩
    have := h.cells (g := g) rfl j u hu
    rw [addr_add] at this
    simpa using this

def findFrom (s : Sl.Subj) : List (Sl.Subj × Sl.Lim) → Nat → Int
  | [], _ => -1
  | x :: r, k => if Sl.sameS x.1 s = true then k else findFrom s r (k + 1)

theorem find_none (kind cls : Int) (s2 s3 : ByteArray) (w : World) :
    Calls Tryz.prog 141 #[.slice none 0 0, .int .i64 kind, .int .i64 cls, .string s2, .string s3] w fun e w' => e = .returned (.int .i64 (-1)) ∧ w' = w := by
  go_enter Tryz.func141, Tryz.ntmps141
  go_wp2_with fail
  go_loopw [11] (fun t wr => wr = w ∧ t = .int .i64 0) (fun t _ => 1 - (intOf t).toNat)
  case atStart => exact ⟨rfl, rfl⟩
  case round =>
    obtain ⟨rfl, rfl⟩ := hrel
    go_wp2
    go_ret
    exact ⟨rfl, rfl⟩

set_option maxRecDepth 100000 in
set_option maxHeartbeats 4000000 in
theorem find_some (l : List (Sl.Subj × Sl.Lim)) (g cap : Nat) (s : Sl.Subj) (w : World) (hc : ∀ j u, (saidAll l)[j]? = some u → w.cell? ⟨g, j, none⟩ = some u) (hn : l.length ≤ 2001) :
    Calls Tryz.prog 141 #[.slice (some ⟨g, 0, none⟩) l.length cap, .int .i64 s.kind, .int .i64 s.cls, .string ⟨s.org.toArray⟩, .string ⟨s.ten.toArray⟩] w fun e w' => e = .returned (.int .i64 (findFrom s l 0)) ∧ w' = w := by
  have HC := hide hc; clear hc
  obtain ⟨R, hR⟩ : ∃ R, R = findFrom s l 0 := ⟨_, rfl⟩
  rw [← hR]
  have HR := hide hR; clear hR
  obtain ⟨B2, hB2⟩ : ∃ B : ByteArray, B = ⟨s.org.toArray⟩ := ⟨_, rfl⟩
  obtain ⟨B3, hB3⟩ : ∃ B : ByteArray, B = ⟨s.ten.toArray⟩ := ⟨_, rfl⟩
  rw [← hB2, ← hB3]
  have HB2 := hide hB2; have HB3 := hide hB3; clear hB2 hB3
  generalize hsk : s.kind = sk
  generalize hsc : s.cls = sc
  have HSK := hide hsk; have HSC := hide hsc; clear hsk hsc
  go_enter Tryz.func141, Tryz.ntmps141
  go_wp2_with fail
  go_loopw [11] (fun t wr => wr = w ∧ ∃ k : Nat, k ≤ l.length ∧ t = .int .i64 k ∧ findFrom s (l.drop k) k = R) (fun t _ => l.length - (intOf t).toNat)
  case atStart => exact ⟨rfl, 0, Nat.zero_le _, rfl, by rw [unhide HR]; rfl⟩
  case round =>
    obtain ⟨rfl, k, hk, rfl, hf⟩ := hrel
    by_cases hlt : k < l.length
    · have hdrop : l.drop k = l[k] :: l.drop (k + 1) := List.drop_eq_getElem_cons hlt
      have hcell : ∀ j, j < 6 → ∀ u, (saidC l[k].1 l[k].2)[j]? = some u → wr.cell? ⟨g, k * 6 + j, none⟩ = some u := by
        intro j hj u hu
        exact unhide HC _ _ (by rw [saidAll_at l k hlt j hj]; exact hu)
      generalize hae : l[k] = a at *
      obtain ⟨a, am⟩ := a
      rw [hdrop] at hf
      have HF := hide hf
      have c0 : wr.cell? ⟨g, k * 6, none⟩ = some (.int .i64 a.kind) := hcell 0 (by omega) _ rfl
      have c1 : wr.cell? ⟨g, k * 6 + 1, none⟩ = some (.int .i64 a.cls) := hcell 1 (by omega) _ rfl
      have c2 : wr.cell? ⟨g, k * 6 + 2, none⟩ = some (.string ⟨a.org.toArray⟩) := hcell 2 (by omega) _ rfl
      have c3 : wr.cell? ⟨g, k * 6 + 3, none⟩ = some (.string ⟨a.ten.toArray⟩) := hcell 3 (by omega) _ rfl
      obtain ⟨A2, hA2⟩ : ∃ B : ByteArray, B = ⟨a.org.toArray⟩ := ⟨_, rfl⟩
      obtain ⟨A3, hA3⟩ : ∃ B : ByteArray, B = ⟨a.ten.toArray⟩ := ⟨_, rfl⟩
      rw [← hA2] at c2
      rw [← hA3] at c3
      have e2 : (A2.toList == B2.toList) = (a.org == s.org) := by rw [Sl.str_eq, hA2, unhide HB2, Bool.eq_iff_iff]; simp
      have e3 : (A3.toList == B3.toList) = (a.ten == s.ten) := by rw [Sl.str_eq, hA3, unhide HB3, Bool.eq_iff_iff]; simp
      have E2 := hide e2; have E3 := hide e3
      have hno : Sl.sameS a s = false → findFrom s (l.drop (k + 1)) (k + 1) = R := by
        intro h
        have h2 := unhide HF
        unfold findFrom at h2
        rw [if_neg (by rw [h]; simp)] at h2
        exact h2
      have HNO := hide hno
      clear hcell hdrop hae hf hA2 hA3 e2 e3 hno
      by_cases k0 : a.kind = sk
      · rw [k0] at c0
        by_cases k1 : a.cls = sc
        · rw [k1] at c1
          cases q2 : (A2.toList == B2.toList) with
          | true =>
            cases q3 : (A3.toList == B3.toList) with
            | true =>
              have HE : Hid (R = k) := hide (by
                rw [← unhide HF]
                unfold findFrom
                rw [if_pos]
                rw [unhide E2] at q2; rw [unhide E3] at q3
                simp [Sl.sameS, q2, q3, k0, k1, unhide HSK, unhide HSC])
              clear k0 k1
              go_wp2
              go_ret
              exact ⟨by rw [unhide HE]; rfl, rfl⟩
            | false =>
              have HE : Hid (findFrom s (l.drop (k + 1)) (k + 1) = R) := hide (unhide HNO (by
                rw [unhide E3] at q3
                simp [Sl.sameS, q3]))
              clear k0 k1
              go_wp2
              go_roundw
              case rel => exact ⟨trivial, k + 1, by omega, by go_num, unhide HE⟩
              case measure => simp [intOf]; omega
          | false =>
            have HE : Hid (findFrom s (l.drop (k + 1)) (k + 1) = R) := hide (unhide HNO (by
              rw [unhide E2] at q2
              simp [Sl.sameS, q2]))
            clear k0 k1
            go_wp2
            go_roundw
            case rel => exact ⟨trivial, k + 1, by omega, by go_num, unhide HE⟩
            case measure => simp [intOf]; omega
        · have HE : Hid (findFrom s (l.drop (k + 1)) (k + 1) = R) := hide (unhide HNO (by
            have h2 : (a.cls == s.cls) = false := by rw [unhide HSC, beq_eq_false_iff_ne]; exact k1
            simp [Sl.sameS, h2]))
          have q1 : ((a.cls : Int) == (sc : Int)) = false := by rw [beq_eq_false_iff_ne]; omega
          clear k0 k1
          go_wp2
          go_roundw
          case rel => exact ⟨trivial, k + 1, by omega, by go_num, unhide HE⟩
          case measure => simp [intOf]; omega
      · have HE : Hid (findFrom s (l.drop (k + 1)) (k + 1) = R) := hide (unhide HNO (by
          have h2 : (a.kind == s.kind) = false := by rw [unhide HSK, beq_eq_false_iff_ne]; exact k0
          simp [Sl.sameS, h2]))
        have q1 : ((a.kind : Int) == (sk : Int)) = false := by rw [beq_eq_false_iff_ne]; omega
        clear k0
        go_wp2
        go_roundw
        case rel => exact ⟨trivial, k + 1, by omega, by go_num, unhide HE⟩
        case measure => simp [intOf]; omega
    · have e : l.drop k = [] := List.drop_eq_nil_of_le (by omega)
      rw [e] at hf
      have HF : Hid (R = -1) := hide (by rw [← hf]; rfl)
      clear hf e
      go_wp2
      go_ret
      exact ⟨by rw [unhide HF]; rfl, rfl⟩

theorem find_any (l : List (Sl.Subj × Sl.Lim)) (v : Value) (s : Sl.Subj) (w : World) (h : RefL w v l) (hn : l.length ≤ 2001) :
    Calls Tryz.prog 141 #[v, .int .i64 s.kind, .int .i64 s.cls, .string ⟨s.org.toArray⟩, .string ⟨s.ten.toArray⟩] w fun e w' => e = .returned (.int .i64 (findFrom s l 0)) ∧ w' = w := by
  rcases h with ⟨rfl, rfl⟩ | ⟨g, cap, rfl, _, hc⟩
  · exact find_none _ _ _ _ w
  · exact find_some l g cap s w hc hn

end Go.Proofs.YthmhfilkgggagaaGreatDoor

namespace Go.Proofs.YthmhfilkgggagaaGreatDoor
open Go.RowKit Go.Maps Go.Sort

/-- Does a line stand ahead of another one? -/
def beforeB (ka ca : Int) (oa ta : List UInt8) (kb cb : Int) (ob tb : List UInt8) : Bool :=
  if ka = kb then (if oa = ob then (if ta = tb then decide (ca < cb) else Op.bytesLess ta tb) else Op.bytesLess oa ob) else decide (ka < kb)

set_option maxRecDepth 100000 in
set_option maxHeartbeats 4000000 in
theorem before_any (ka ca : Int) (oa ta : List UInt8) (ra ua : Int) (kb cb : Int) (ob tb : List UInt8) (rb ub : Int) (w : World) :
    Calls Tryz.prog 92 #[said6 ka ca ⟨oa.toArray⟩ ⟨ta.toArray⟩ ra ua, said6 kb cb ⟨ob.toArray⟩ ⟨tb.toArray⟩ rb ub] w fun e w' => e = .returned (.bool (beforeB ka ca oa ta kb cb ob tb)) ∧ Below w.heap.size w w' := by
  obtain ⟨A2, hA2⟩ : ∃ B : ByteArray, B = ⟨oa.toArray⟩ := ⟨_, rfl⟩
  obtain ⟨A3, hA3⟩ : ∃ B : ByteArray, B = ⟨ta.toArray⟩ := ⟨_, rfl⟩
  obtain ⟨B2, hB2⟩ : ∃ B : ByteArray, B = ⟨ob.toArray⟩ := ⟨_, rfl⟩
  obtain ⟨B3, hB3⟩ : ∃ B : ByteArray, B = ⟨tb.toArray⟩ := ⟨_, rfl⟩
  rw [← hA2, ← hA3, ← hB2, ← hB3]
  have e2 : (A2.toList == B2.toList) = decide (oa = ob) := by rw [Sl.str_eq, hA2, hB2]
  have e3 : (A3.toList == B3.toList) = decide (ta = tb) := by rw [Sl.str_eq, hA3, hB3]
  have l2 : Op.bytesLess A2.toList B2.toList = Op.bytesLess oa ob := by rw [ByteArray.toList_eq, ByteArray.toList_eq, hA2, hB2]
  have l3 : Op.bytesLess A3.toList B3.toList = Op.bytesLess ta tb := by rw [ByteArray.toList_eq, ByteArray.toList_eq, hA3, hB3]
  obtain ⟨R, hR⟩ : ∃ R, R = beforeB ka ca oa ta kb cb ob tb := ⟨_, rfl⟩
  rw [← hR]
  have HR := hide hR; have E2 := hide e2; have E3 := hide e3; have L2 := hide l2; have L3 := hide l3
  clear hR e2 e3 l2 l3 hA2 hA3 hB2 hB3
  by_cases k : ka = kb
  · subst k
    by_cases q2 : oa = ob
    · have p2 : (A2.toList == B2.toList) = true := by rw [unhide E2]; exact decide_eq_true q2
      by_cases q3 : ta = tb
      · have p3 : (A3.toList == B3.toList) = true := by rw [unhide E3]; exact decide_eq_true q3
        have HE : Hid (R = decide (ca < cb)) := hide (by rw [unhide HR]; unfold beforeB; rw [if_pos rfl, if_pos q2, if_pos q3])
        clear q2 q3
        go_enter Tryz.func92, Tryz.ntmps92
        go_wp2
        go_ret
        exact ⟨ret_bool (unhide HE).symm, below_two _ _ _⟩
      · have p3 : (A3.toList == B3.toList) = false := by rw [unhide E3]; exact decide_eq_false q3
        have HE : Hid (R = Op.bytesLess A3.toList B3.toList) := hide (by rw [unhide HR, unhide L3]; unfold beforeB; rw [if_pos rfl, if_pos q2, if_neg q3])
        clear q2 q3
        go_enter Tryz.func92, Tryz.ntmps92
        go_wp2
        go_ret
        exact ⟨ret_bool (unhide HE).symm, below_two _ _ _⟩
    · have p2 : (A2.toList == B2.toList) = false := by rw [unhide E2]; exact decide_eq_false q2
      have HE : Hid (R = Op.bytesLess A2.toList B2.toList) := hide (by rw [unhide HR, unhide L2]; unfold beforeB; rw [if_pos rfl, if_neg q2])
      clear q2
      go_enter Tryz.func92, Tryz.ntmps92
      go_wp2
      go_ret
      exact ⟨ret_bool (unhide HE).symm, below_two _ _ _⟩
  · have p : (ka == kb) = false := by rw [beq_eq_false_iff_ne]; exact k
    have HE : Hid (R = decide (ka < kb)) := hide (by rw [unhide HR]; unfold beforeB; rw [if_neg k])
    clear k
    go_enter Tryz.func92, Tryz.ntmps92
    go_wp2
    go_ret
    exact ⟨ret_bool (unhide HE).symm, below_two _ _ _⟩

set_option maxRecDepth 100000 in
set_option maxHeartbeats 1000000 in
theorem refText_num (n : Nat) (hn : n ≤ 9223372036854775807) : ∀ (w : World),
    Calls Tryz.prog 93 #[.int .i64 n] w fun e w' => e = .returned (.string ⟨(Lib.decDigits n).toArray⟩) ∧ Below w.heap.size w w' := by
  induction n using Nat.strongRecOn with
  | _ n ih =>
    intro w
    have hcv := last_digit w n
    generalize hdg : UInt8.ofNat (48 + n % 10) = dg at *
    by_cases h10 : n < 10
    · have hd : Lib.decDigits n = [dg] := by rw [← hdg, Lib.decDigits_one h10, Nat.mod_eq_of_lt h10]
      rw [hd]
      clear ih hd hdg
      go_enter Tryz.func93, Tryz.ntmps93
      go_wp2
      go_ret
      exact ⟨rfl, Below.alloc1 _ _⟩
    · have hd : Lib.decDigits n = Lib.decDigits (n / 10) ++ [dg] := by rw [← hdg, Lib.decDigits, dif_neg h10]
      have hih := ih (n / 10) (by omega) (by omega)
      have hq : ((n / 10 : Nat) : Int) = (n : Int) / 10 := by omega
      have hl : (Lib.decDigits (n / 10)).length ≤ 20 := dec_len (n / 10) 19 (by omega)
      rw [hq] at hih
      have HIH := hide hih; have HD := hide hd
      clear ih hd hih hq hdg
      go_enter Tryz.func93, Tryz.ntmps93
      go_wp2_with fail
      refine (unhide HIH _).mono ?_
      rintro e w2 ⟨rfl, hb⟩
      go_wp2
      go_ret
      rw [unhide HD]
      exact ⟨cat_ret _ _ _ rfl, (Below.alloc1 _ _).trans (hb.mono (by simp))⟩

/-- What named answers. -/
def namedV (cls org ten : List UInt8) : Value := match bucketS cls org ten with
  | some c => .tuple #[.int .i64 c, .int .i64 0]
  | none => .tuple #[.int .i64 0, .int .i64 5]

theorem ret_tuple {v x : Value} (h : x = v) : Ending.returned v = .returned x := by rw [h]

set_option maxRecDepth 100000 in
set_option maxHeartbeats 4000000 in
theorem named_any (cls org ten : List UInt8) (w : World) (ho : org.length ≤ 281474976710656) (ht : ten.length ≤ 281474976710656) :
    Calls Tryz.prog 94 #[.string ⟨cls.toArray⟩, .string ⟨org.toArray⟩, .string ⟨ten.toArray⟩] w fun e w' => e = .returned (namedV cls org ten) ∧ w' = w := by
  have hcl := hide (refClass_any cls w)
  have hn1 := hide (refName_any org w ho)
  have hn2 := refName_any ten w ht
  obtain ⟨T, hT⟩ : ∃ T : ByteArray, T = ⟨ten.toArray⟩ := ⟨_, rfl⟩
  rw [← hT] at hn2 ⊢
  have hn2 := hide hn2
  have hemp : T.toList = ten := by rw [ByteArray.toList_eq, hT]
  obtain ⟨R, hR⟩ : ∃ R, R = namedV cls org ten := ⟨_, rfl⟩
  rw [← hR]
  have HR := hide hR
  have HEM := hide hemp
  clear hT hR hemp
  go_enter Tryz.func94, Tryz.ntmps94
  go_wp2_with fail
  refine (unhide hcl).mono ?_
  rintro e w1 ⟨rfl, rfl⟩
  go_wp2_with fail
  refine (unhide hn1).mono ?_
  rintro e w2 ⟨rfl, rfl⟩
  go_wp2_with fail
  refine (unhide hn2).mono ?_
  rintro e w3 ⟨rfl, rfl⟩
  clear hcl hn1 hn2
  cases hc : Sl.classOf cls with
  | none =>
    have e : classI cls = -1 := by unfold classI; rw [hc]
    have HE : Hid (R = .tuple #[.int .i64 0, .int .i64 5]) := hide (by rw [unhide HR]; unfold namedV bucketS; rw [hc])
    rw [e]
    clear hc e
    go_wp2
    go_ret2
    exact ⟨ret_tuple (unhide HE), rfl⟩
  | some c =>
    have e : classI cls = c := by unfold classI; rw [hc]
    have hbs : bucketS cls org ten = if Sl.isName org = true ∧ (ten = [] ∨ Sl.isName ten = true) then some c else none := by unfold bucketS; rw [hc]
    rw [e]
    have hc0 : ¬ (c : Int) < 0 := by omega
    cases ho1 : Sl.isName org with
    | false =>
      have HE : Hid (R = .tuple #[.int .i64 0, .int .i64 5]) := hide (by rw [unhide HR]; unfold namedV; rw [hbs, if_neg (by rw [ho1]; simp)])
      clear hc e hbs ho1
      go_wp2
      go_ret2
      exact ⟨ret_tuple (unhide HE), rfl⟩
    | true =>
      by_cases h0 : ten = []
      · have q0 : T.toList = [] := by rw [unhide HEM]; exact h0
        have HE : Hid (R = .tuple #[.int .i64 c, .int .i64 0]) := hide (by rw [unhide HR]; unfold namedV; rw [hbs, if_pos ⟨ho1, .inl h0⟩])
        clear hc e hbs ho1 h0
        go_wp2
        go_ret2
        exact ⟨ret_tuple (unhide HE), rfl⟩
      · have q0 : ¬ T.toList = [] := by rw [unhide HEM]; exact h0
        have q1 : T.toList.isEmpty = false := by rw [unhide HEM]; cases ten with
          | nil => exact absurd rfl h0
          | cons a r => rfl
        cases ht1 : Sl.isName ten with
        | true =>
          have HE : Hid (R = .tuple #[.int .i64 c, .int .i64 0]) := hide (by rw [unhide HR]; unfold namedV; rw [hbs, if_pos ⟨ho1, .inr ht1⟩])
          clear hc e hbs ho1 h0 ht1
          go_wp2
          go_ret2
          exact ⟨ret_tuple (unhide HE), rfl⟩
        | false =>
          have HE : Hid (R = .tuple #[.int .i64 0, .int .i64 5]) := hide (by
            rw [unhide HR]; unfold namedV
            rw [hbs, if_neg (by rw [ht1]; simp [h0])])
          clear hc e hbs ho1 h0 ht1
          go_wp2
          go_ret2
          exact ⟨ret_tuple (unhide HE), rfl⟩

end Go.Proofs.YthmhfilkgggagaaGreatDoor

namespace Go.Proofs.YthmhfilkgggagaaGreatDoor
open Go.RowKit Go.Maps Go.Sort

theorem find_spec (s : Sl.Subj) : ∀ (l : List (Sl.Subj × Sl.Lim)) (k : Nat), (findFrom s l k = -1 ∧ look l s = none) ∨ ∃ i, ∃ hi : i < l.length, findFrom s l k = ((k + i : Nat) : Int) ∧ look l s = some l[i].2
  | [], k => .inl ⟨rfl, rfl⟩
  | x :: r, k => by
    by_cases h : Sl.sameS x.1 s = true
    · right
      refine ⟨0, by simp, ?_, ?_⟩
      · unfold findFrom; rw [if_pos h]; rfl
      · simp [look, h]
    · have e1 : findFrom s (x :: r) k = findFrom s r (k + 1) := by
        conv => lhs; unfold findFrom
        rw [if_neg h]
      have e2 : look (x :: r) s = look r s := by simp [look, h]
      rcases find_spec s r (k + 1) with ⟨h1, h2⟩ | ⟨i, hi, h1, h2⟩
      · exact .inl ⟨e1.trans h1, e2.trans h2⟩
      · refine .inr ⟨i + 1, by simp; omega, ?_, ?_⟩
        · rw [e1, h1]; congr 1; omega
        · rw [e2, h2]; rfl

theorem find_at (l : List (Sl.Subj × Sl.Lim)) (v : Value) (kind cls : Int) (s2 s3 : ByteArray) (kn cn : Nat) (o t : List UInt8) (hk : kind = kn) (hc : cls = cn) (h2 : s2 = ⟨o.toArray⟩) (h3 : s3 = ⟨t.toArray⟩) (w : World) (h : RefL w v l) (hn : l.length ≤ 2001) :
    Calls Tryz.prog 141 #[v, .int .i64 kind, .int .i64 cls, .string s2, .string s3] w fun e w' => e = .returned (.int .i64 (findFrom ⟨kn, cn, o, t⟩ l 0)) ∧ w' = w := by
  subst hk hc h2 h3
  exact find_any l v ⟨kn, cn, o, t⟩ w h hn

theorem own_weak {w : World} {B B' e size n : Nat} {v : Value} {xs : List Value} (h : w.ownsRow B e size v n xs) (hb : B' ≤ B) : w.ownsRow B' e size v n xs := by
  refine ⟨h.1, ?_⟩
  rcases h.2 with h2 | ⟨g, cap, cur, e1, h1, rest⟩
  · exact .inl h2
  · exact .inr ⟨g, cap, cur, e1, Nat.le_trans hb h1, rest⟩

/-- The document's sluice: its lines. -/
structure IsRef (w : World) (rb : Nat) (v vB : Value) (tm : Nat) (l : List (Sl.Subj × Sl.Lim)) : Prop where
  at_ : w.heap[rb]? = some (.cells #[v, vB, .int .i64 tm] 140 (0, 0))
  own : w.ownsRow 0 178 6 v l.length (saidAll l)
  ok : OkT l
  dflt : defaultsB l = true
  low : 7 ≤ rb

theorem IsRef.list {w : World} {rb : Nat} {v vB : Value} {tm : Nat} {l : List (Sl.Subj × Sl.Lim)} (h : IsRef w rb v vB tm l) : RefL w v l := RefL.own h.own rfl

theorem IsRef.len {w : World} {rb : Nat} {v vB : Value} {tm : Nat} {l : List (Sl.Subj × Sl.Lim)} (h : IsRef w rb v vB tm l) : l.length ≤ 2001 := h.ok.2.2

theorem IsRef.lt {w : World} {rb : Nat} {v vB : Value} {tm : Nat} {l : List (Sl.Subj × Sl.Lim)} (h : IsRef w rb v vB tm l) : rb < w.heap.size := (Array.getElem?_eq_some_iff.1 h.at_).1

theorem IsRef.below {w w' : World} {rb : Nat} {v vB : Value} {tm : Nat} {l : List (Sl.Subj × Sl.Lim)} (h : IsRef w rb v vB tm l) (hb : Below w.heap.size w w') : IsRef w' rb v vB tm l :=
  ⟨(hb.block rb h.lt).trans h.at_, own_below h.own hb, h.ok, h.dflt, h.low⟩

theorem IsRef.cell {w : World} {rb : Nat} {v vB : Value} {tm : Nat} {l : List (Sl.Subj × Sl.Lim)} (h : IsRef w rb v vB tm l) : w.cell? ⟨rb, 0, none⟩ = some v := by
  simp [World.cell?, h.at_]

theorem dflt_look {l : List (Sl.Subj × Sl.Lim)} (h : defaultsB l = true) (k c : Nat) (hk : k < 2) (hc : c < 2) : (look l ⟨k, c, [], []⟩).isSome = true := by
  apply Classical.byContradiction
  intro hn
  have := no_default l k c hk hc (by unfold dflt; simpa using hn)
  rw [this] at h; cases h

/-- What stands at a place of the list. -/
theorem RefL.nth {w : World} {v : Value} {l : List (Sl.Subj × Sl.Lim)} (h : RefL w v l) {i : Nat} (hi : i < l.length) : ∃ g cap, v = .slice (some ⟨g, 0, none⟩) l.length cap ∧ g < w.heap.size ∧
    ∀ j u, j < 6 → (saidC l[i].1 l[i].2)[j]? = some u → w.cell? ⟨g, i * 6 + j, none⟩ = some u := by
  rcases h with ⟨_, rfl⟩ | ⟨g, cap, rfl, hg, hc⟩
  · simp at hi
  · exact ⟨g, cap, rfl, hg, fun j u hj hu => hc _ _ (by rw [saidAll_at l i hi j hj]; exact hu)⟩

set_option maxRecDepth 100000 in
set_option maxHeartbeats 4000000 in
theorem refLimit_core (l : List (Sl.Subj × Sl.Lim)) (rb : Nat) (v : Value) (c : Nat) (org ten : List UInt8) (w : World) (hrb : rb < w.heap.size) (hcl : w.cell? ⟨rb, 0, none⟩ = some v) (hlist : RefL w v l) (hn : l.length ≤ 2001) (hdf : defaultsB l = true) (hc : c < 2) :
    Calls Tryz.prog 95 #[.pointer (some ⟨rb, 0, none⟩), .int .i64 c, .string ⟨org.toArray⟩, .string ⟨ten.toArray⟩] w fun e w' => e = .returned (limV (limitS l c org ten)) ∧ Below w.heap.size w w' := by
  have hbz : ∀ o, RefL (w.alloc o) v l := fun o => hlist.below (Below.alloc1 w o)
  have HB := hide hbz
  obtain ⟨T, hT⟩ : ∃ T : ByteArray, T = ⟨ten.toArray⟩ := ⟨_, rfl⟩
  obtain ⟨O, hO⟩ : ∃ T : ByteArray, T = ⟨org.toArray⟩ := ⟨_, rfl⟩
  rw [← hT, ← hO]
  have hemp : T.toList = ten := by rw [ByteArray.toList_eq, hT]
  have HT := hide hT; have HO := hide hO; have HEM := hide hemp
  have HD := hide hdf
  -- the two look-ups
  have key : ∃ k : Nat, (k = 2 ∧ ten = [] ∨ k = 3 ∧ ten ≠ []) ∧ limitS l c org ten = (look l ⟨k, c, org, ten⟩).getD ((look l ⟨k - 2, c, [], []⟩).getD noLim) := by
    by_cases h0 : ten = []
    · exact ⟨2, .inl ⟨rfl, h0⟩, by unfold limitS; rw [if_pos h0, h0]⟩
    · exact ⟨3, .inr ⟨rfl, h0⟩, by unfold limitS; rw [if_neg h0]⟩
  obtain ⟨k, hk, hlim⟩ := key
  rw [hlim]
  have HLS := hide hlist
  clear hT hO hemp hlim hbz hlist hdf
  have fin : ∀ (i : Nat) (hi : i < l.length), ∃ g cap, v = .slice (some ⟨g, 0, none⟩) l.length cap ∧ g < w.heap.size ∧ w.cell? ⟨g, i * 6 + 4, none⟩ = some (.int .i64 l[i].2.rate) ∧ w.cell? ⟨g, i * 6 + 5, none⟩ = some (.int .i64 l[i].2.burst) := by
    intro i hi
    obtain ⟨g, cap, e, hg, hcells⟩ := (unhide HLS).nth hi
    exact ⟨g, cap, e, hg, hcells 4 _ (by omega) rfl, hcells 5 _ (by omega) rfl⟩
  have FIN := hide fin
  clear fin
  rcases find_spec ⟨k, c, org, ten⟩ l 0 with ⟨h1, h2⟩ | ⟨i, hi, h1, h2⟩
  · rcases find_spec ⟨k - 2, c, [], []⟩ l 0 with ⟨h3, h4⟩ | ⟨i, hi, h3, h4⟩
    · exfalso
      have hd := dflt_look (unhide HD) (k - 2) c (by rcases hk with ⟨rfl, _⟩ | ⟨rfl, _⟩ <;> omega) hc
      rw [h4] at hd; cases hd
    · rw [h2, h4, Option.getD_none, Option.getD_some]
      obtain ⟨g, cap, rfl, hg, c4, c5⟩ := unhide FIN i hi
      rw [Nat.zero_add] at h3
      have H1 := hide h1; have H2 := hide h3
      generalize l[i].2 = m at *
      have hii : (i : Int) < (l.length : Int) := by omega
      clear h1 h2 h3 h4 FIN HLS HD
      rcases hk with ⟨rfl, h0⟩ | ⟨rfl, h0⟩
      · have q0 : T.toList = [] := by rw [unhide HEM]; exact h0
        clear h0
        go_enter Tryz.func95, Tryz.ntmps95
        go_wp2_with fail
        refine (find_at l _ 2 c O T 2 c org ten rfl rfl (unhide HO) (unhide HT) _ (unhide HB _) hn).mono ?_
        rintro e w1 ⟨rfl, rfl⟩
        rw [unhide H1]
        go_wp2_with fail
        refine (find_at l _ 0 c ⟨#[]⟩ ⟨#[]⟩ 0 c [] [] rfl rfl rfl rfl _ (unhide HB _) hn).mono ?_
        rintro e w1 ⟨rfl, rfl⟩
        rw [unhide H2]
        go_wp2
        exact bodyPost_ret (v := limV m) (by simp [results, Tryz.results95, go_sem, limV]) rfl ⟨rfl, Below.alloc1 _ _⟩
      · have q0 : ¬ T.toList = [] := by rw [unhide HEM]; exact h0
        have q1 : T.toList.isEmpty = false := by
          rw [unhide HEM]
          cases ten with
          | nil => exact absurd rfl h0
          | cons a r => rfl
        clear h0
        go_enter Tryz.func95, Tryz.ntmps95
        go_wp2_with fail
        refine (find_at l _ 3 c O T 3 c org ten rfl rfl (unhide HO) (unhide HT) _ (unhide HB _) hn).mono ?_
        rintro e w1 ⟨rfl, rfl⟩
        rw [unhide H1]
        go_wp2_with fail
        refine (find_at l _ 1 c ⟨#[]⟩ ⟨#[]⟩ 1 c [] [] rfl rfl rfl rfl _ (unhide HB _) hn).mono ?_
        rintro e w1 ⟨rfl, rfl⟩
        rw [unhide H2]
        go_wp2
        exact bodyPost_ret (v := limV m) (by simp [results, Tryz.results95, go_sem, limV]) rfl ⟨rfl, Below.alloc1 _ _⟩
  · rw [h2, Option.getD_some]
    obtain ⟨g, cap, rfl, hg, c4, c5⟩ := unhide FIN i hi
    rw [Nat.zero_add] at h1
    have H1 := hide h1
    generalize l[i].2 = m at *
    have hii : (i : Int) < (l.length : Int) := by omega
    clear h1 h2 FIN HLS HD
    rcases hk with ⟨rfl, h0⟩ | ⟨rfl, h0⟩
    · have q0 : T.toList = [] := by rw [unhide HEM]; exact h0
      clear h0
      go_enter Tryz.func95, Tryz.ntmps95
      go_wp2_with fail
      refine (find_at l _ 2 c O T 2 c org ten rfl rfl (unhide HO) (unhide HT) _ (unhide HB _) hn).mono ?_
      rintro e w1 ⟨rfl, rfl⟩
      rw [unhide H1]
      go_wp2
      exact bodyPost_ret (v := limV m) (by simp [results, Tryz.results95, go_sem, limV]) rfl ⟨rfl, Below.alloc1 _ _⟩
    · have q0 : ¬ T.toList = [] := by rw [unhide HEM]; exact h0
      have q1 : T.toList.isEmpty = false := by
        rw [unhide HEM]
        cases ten with
        | nil => exact absurd rfl h0
        | cons a r => rfl
      clear h0
      go_enter Tryz.func95, Tryz.ntmps95
      go_wp2_with fail
      refine (find_at l _ 3 c O T 3 c org ten rfl rfl (unhide HO) (unhide HT) _ (unhide HB _) hn).mono ?_
      rintro e w1 ⟨rfl, rfl⟩
      rw [unhide H1]
      go_wp2
      exact bodyPost_ret (v := limV m) (by simp [results, Tryz.results95, go_sem, limV]) rfl ⟨rfl, Below.alloc1 _ _⟩

theorem refLimit_in (l : List (Sl.Subj × Sl.Lim)) (rb : Nat) (v vB : Value) (tm : Nat) (c : Nat) (org ten : List UInt8) (w : World) (h : IsRef w rb v vB tm l) (hc : c < 2) :
    Calls Tryz.prog 95 #[.pointer (some ⟨rb, 0, none⟩), .int .i64 c, .string ⟨org.toArray⟩, .string ⟨ten.toArray⟩] w fun e w' => e = .returned (limV (limitS l c org ten)) ∧ Below w.heap.size w w' :=
  refLimit_core l rb v c org ten w h.lt h.cell h.list h.len h.dflt hc

end Go.Proofs.YthmhfilkgggagaaGreatDoor

namespace Go.Proofs.YthmhfilkgggagaaGreatDoor
open Go.RowKit Go.Maps Go.Sort

theorem bucket_same (cls org ten : List UInt8) : (bucketA cls org ten).2 = (bucketS cls org ten).isSome ∧ ∀ c, bucketS cls org ten = some c → (bucketA cls org ten).1 = c := by
  unfold bucketA
  cases bucketS cls org ten with
  | none => exact ⟨rfl, fun c h => by cases h⟩
  | some n => exact ⟨rfl, fun c h => by cases h; rfl⟩

set_option maxRecDepth 100000 in
set_option maxHeartbeats 4000000 in
theorem refLimit_any (l : List (Sl.Subj × Sl.Lim)) (rb : Nat) (v vB : Value) (tm : Nat) (cls org ten : List UInt8) (w : World) (h : IsRef w rb v vB tm l) (ho : org.length ≤ 281474976710656) (ht : ten.length ≤ 281474976710656) :
    Calls Tryz.prog 60 #[.pointer (some ⟨rb, 0, none⟩), .string ⟨cls.toArray⟩, .string ⟨org.toArray⟩, .string ⟨ten.toArray⟩] w fun e w' => e = .returned (.tuple #[limV (limitA l cls org ten).1, .int .i64 (limitA l cls org ten).2]) ∧ Below w.heap.size w w' := by
  have hnm := fun W => named_any cls org ten W ho ht
  have HNM := hide hnm
  have HH := hide h
  obtain ⟨b1, b2⟩ := bucket_same cls org ten
  cases hbs : bucketS cls org ten with
  | none =>
    have e : limitA l cls org ten = (noLim, 5) := by unfold limitA; rw [b1, hbs]; rfl
    have en : namedV cls org ten = .tuple #[.int .i64 0, .int .i64 5] := by unfold namedV; rw [hbs]
    rw [e]
    have HEN := hide en
    clear hnm h b1 b2 hbs e en
    go_enter Tryz.func60, Tryz.ntmps60
    go_wp2_with fail
    refine (unhide HNM _).mono ?_
    rintro e w1 ⟨rfl, rfl⟩
    rw [unhide HEN]
    go_wp2
    exact bodyPost_ret (v := .tuple #[limV noLim, .int .i64 5]) (by simp [results, Tryz.results60, go_sem, limV, noLim]) rfl ⟨rfl, Below.alloc1 _ _⟩
  | some c =>
    have hc : c < 2 := by
      have := bucketA_ok (cls := cls) (org := org) (ten := ten) (by rw [b1, hbs]; rfl)
      rw [b2 c hbs] at this
      exact this.1
    have e : limitA l cls org ten = (limitS l c org ten, 0) := by unfold limitA; rw [b1, hbs, b2 c hbs]; rfl
    have en : namedV cls org ten = .tuple #[.int .i64 c, .int .i64 0] := by unfold namedV; rw [hbs]
    rw [e]
    have HEN := hide en
    have hlim := hide (fun o => refLimit_in l rb v vB tm c org ten _ ((unhide HH).below (Below.alloc1 w o)) hc)
    clear hnm h b1 b2 hbs e en
    generalize limitS l c org ten = m at *
    go_enter Tryz.func60, Tryz.ntmps60
    go_wp2_with fail
    refine (unhide HNM _).mono ?_
    rintro e w1 ⟨rfl, rfl⟩
    rw [unhide HEN]
    go_wp2_with fail
    refine (unhide hlim _).mono ?_
    rintro e w1 ⟨rfl, hb⟩
    have hz : w.heap.size < w1.heap.size := by have := hb.size; simp at this; omega
    have H2 := hide (Two.keep (Two.made w (.int .i64 0) (.int .i64 0) 27) hb (by simp))
    obtain ⟨r0, r1, f0, f1, _⟩ := unhide H2
    have gg : ∀ x y o, (((w1.setCell ⟨w.heap.size, 0, none⟩ x).setCell ⟨w.heap.size, 1, none⟩ y).alloc o).cell? ⟨w.heap.size, 0, none⟩ = some x ∧ (((w1.setCell ⟨w.heap.size, 0, none⟩ x).setCell ⟨w.heap.size, 1, none⟩ y).alloc o).cell? ⟨w.heap.size, 1, none⟩ = some y := by
      intro x y o
      have hsz : w.heap.size < ((w1.setCell ⟨w.heap.size, 0, none⟩ x).setCell ⟨w.heap.size, 1, none⟩ y).heap.size := by simpa using hz
      rw [World.cell?_alloc_past _ _ _ hsz, World.cell?_alloc_past _ _ _ hsz]
      refine ⟨?_, ?_⟩
      · rw [World.cell?_setCell_other _ _ _ _ (by intro h; cases h)]; exact World.cell?_setCell_same _ _ _ r0
      · exact World.cell?_setCell_same _ _ _ (by rw [World.cell?_setCell_other _ _ _ _ (by intro h; cases h)]; exact r1)
    have GG := hide gg
    clear gg
    unfold limV
    go_wp2
    refine bodyPost_ret (v := .tuple #[limV m, .int .i64 0]) (by simp [results, Tryz.results60, go_sem, limV, (unhide GG _ _ _).1, (unhide GG _ _ _).2]) rfl ⟨rfl, ?_⟩
    exact ((((Below.alloc1 w _).trans (hb.mono (by simp))).setCell (Nat.le_refl _) _).setCell (Nat.le_refl _) _).alloc (by simp; omega) _

end Go.Proofs.YthmhfilkgggagaaGreatDoor

namespace Go.Proofs.YthmhfilkgggagaaGreatDoor
open Go.RowKit Go.Maps Go.Sort

/-- What is left to read, when the lines up to place k are read and the line that began at fr is under way. -/
def Todo (t : List UInt8) (fr k ln : Nat) (acc : List Sl.Saying) (R : List Sl.Saying × Nat) : Prop :=
  (k ≤ t.length ∧ Sl.scan ln (Sl.lgo (cutB t fr k) (t.drop k)) acc = R) ∨ (k = t.length + 1 ∧ (acc, 0) = R)

theorem todo_start (t : List UInt8) : Todo t 0 0 0 [] (Sl.scan 0 (Sl.lines t) []) := .inl ⟨Nat.zero_le _, by rw [cutB_self]; rfl⟩

theorem todo_byte {t : List UInt8} {fr k ln : Nat} {acc : List Sl.Saying} {R : List Sl.Saying × Nat} {x : UInt8} (h : Todo t fr k ln acc R) (hf : fr ≤ k) (hx : t[k]? = some x) (h10 : x ≠ 10) : Todo t fr (k + 1) ln acc R := by
  have hk := (List.getElem?_eq_some_iff.1 hx).1
  rcases h with ⟨_, h⟩ | ⟨h, _⟩
  · left
    refine ⟨by omega, ?_⟩
    rw [drop_at t k x hx] at h
    rw [← h, cutB_snoc t fr k x hf hx]
    conv => rhs; unfold Sl.lgo
    rw [if_neg h10]
  · omega

/-- A line ends at k. -/
theorem todo_line {t : List UInt8} {fr k ln : Nat} {acc : List Sl.Saying} {R : List Sl.Saying × Nat} (h : Todo t fr k ln acc R) (hk : k ≤ t.length) (h10 : k < t.length → t[k]? = some 10) :
    (Sl.nothing (Sl.fields (cutB t fr k)) = true → Todo t (k + 1) (k + 1) (ln + 1) acc R) ∧
    (¬ Sl.nothing (Sl.fields (cutB t fr k)) = true → Sl.line (Sl.fields (cutB t fr k)) = none → R = ([], ln + 1)) ∧
    (¬ Sl.nothing (Sl.fields (cutB t fr k)) = true → ∀ s m, Sl.line (Sl.fields (cutB t fr k)) = some (s, m) → Todo t (k + 1) (k + 1) (ln + 1) (acc ++ [⟨ln + 1, s, m⟩]) R) := by
  have key : ∃ rest, Sl.scan ln (cutB t fr k :: rest) acc = R ∧ ∀ acc', Sl.scan (ln + 1) rest acc' = R → Todo t (k + 1) (k + 1) (ln + 1) acc' R := by
    rcases h with ⟨_, h⟩ | ⟨h, _⟩
    · by_cases hlt : k < t.length
      · rw [drop_at t k 10 (h10 hlt)] at h
        refine ⟨Sl.lgo [] (t.drop (k + 1)), ?_, fun acc' ha => .inl ⟨by omega, by rw [cutB_self]; exact ha⟩⟩
        rw [← h]
        conv => rhs; unfold Sl.lgo
        rw [if_pos rfl]
      · have e : t.drop k = [] := List.drop_eq_nil_of_le (by omega)
        rw [e] at h
        refine ⟨[], h, fun acc' ha => .inr ⟨by omega, ha⟩⟩
    · omega
  obtain ⟨rest, hs, hn⟩ := key
  unfold Sl.scan at hs
  refine ⟨fun h1 => hn _ (by rw [if_pos h1] at hs; exact hs), fun h1 h2 => ?_, fun h1 s m h2 => hn _ ?_⟩
  · rw [if_neg h1, h2] at hs; exact hs.symm
  · rw [if_neg h1, h2] at hs; exact hs

theorem todo_done {t : List UInt8} {fr k ln : Nat} {acc : List Sl.Saying} {R : List Sl.Saying × Nat} (h : Todo t fr k ln acc R) (hk : ¬ k ≤ t.length) : R = (acc, 0) := by
  rcases h with ⟨h, _⟩ | ⟨_, h⟩
  · omega
  · exact h.symm

theorem line_short {l : List (List UInt8)} (h : l.length < 5) : Sl.line l = none := by
  unfold Sl.line
  match hr : l.reverse with
  | [] => rfl
  | [_] => rfl
  | u :: r :: m =>
    have hm : m.length < 3 := by have := congrArg List.length hr; simp at this; omega
    have : Sl.subject m.reverse = none := by
      match m, hm with
      | [], _ => rfl
      | [a], _ => simp [Sl.subject]; cases Sl.classOf a <;> simp [Sl.owner]
      | [a, b], _ => simp [Sl.subject]; cases Sl.classOf a <;> simp [Sl.owner]
    simp [this]

theorem refSaid_any (F : List (List UInt8)) (g cap : Nat) (w : World) (hg : g < w.heap.size) (hcap : F.length ≤ cap) (hn : F.length ≤ 2000) (hl : ∀ x ∈ F, x.length ≤ 2000)
    (hc : ∀ i (hi : i < F.length), w.cell? ⟨g, i, none⟩ = some (.string ⟨F[i].toArray⟩)) :
    Calls Tryz.prog 140 #[.slice (some ⟨g, 0, none⟩) F.length cap] w (SaidP (Sl.line F) w) := by
  by_cases h5 : F.length < 5
  · exact refSaid_short _ _ _ _ (line_short h5) w (by omega)
  · obtain ⟨m, xc, xr, xu, rfl, hm⟩ : ∃ m xc xr xu, F = m ++ [xc, xr, xu] ∧ m.length = F.length - 3 := by
      refine ⟨F.take (F.length - 3), F[F.length - 3], F[F.length - 2], F[F.length - 1], ?_, by simp⟩
      apply List.ext_getElem?
      intro i
      by_cases h1 : i < F.length - 3
      · rw [List.getElem?_append_left (by simp; omega), List.getElem?_take_of_lt h1]
      · rw [List.getElem?_append_right (by simp; omega)]
        have e : (F.take (F.length - 3)).length = F.length - 3 := by simp
        rw [e]
        by_cases h2 : i = F.length - 3
        · subst h2; simp [show F.length - 3 < F.length by omega]
        · by_cases h3 : i = F.length - 2
          · subst h3
            have : F.length - 2 - (F.length - 3) = 1 := by omega
            rw [this]; simp [show F.length - 2 < F.length by omega]
          · by_cases h4 : i = F.length - 1
            · subst h4
              have : F.length - 1 - (F.length - 3) = 2 := by omega
              rw [this]; simp [show F.length - 1 < F.length by omega]
            · rw [List.getElem?_eq_none (by omega), List.getElem?_eq_none (by simp; omega)]
    have hlen : (m ++ [xc, xr, xu]).length = m.length + 3 := by simp
    rw [hlen] at hcap hn h5 ⊢
    have hat : ∀ i x, (m ++ [xc, xr, xu])[i]? = some x → w.cell? ⟨g, i, none⟩ = some (.string ⟨x.toArray⟩) ∧ x.length ≤ 2000 := by
      intro i x hx
      obtain ⟨hi, rfl⟩ := List.getElem?_eq_some_iff.1 hx
      exact ⟨hc i hi, hl _ (List.getElem_mem hi)⟩
    obtain ⟨x0, h0⟩ : ∃ x, m[0]? = some x := ⟨_, List.getElem?_eq_getElem (by omega)⟩
    obtain ⟨x1, h1⟩ : ∃ x, m[1]? = some x := ⟨_, List.getElem?_eq_getElem (by omega)⟩
    obtain ⟨x2, h2⟩ : ∃ x, (m ++ [xc, xr, xu])[2]? = some x := ⟨_, List.getElem?_eq_getElem (by rw [hlen]; omega)⟩
    have a0 := hat 0 x0 (by rw [List.getElem?_append_left (by omega)]; exact h0)
    have a1 := hat 1 x1 (by rw [List.getElem?_append_left (by omega)]; exact h1)
    have a2 := hat 2 x2 h2
    have ac := hat m.length xc (by rw [List.getElem?_append_right (Nat.le_refl _)]; simp)
    have ar := hat (m.length + 1) xr (by rw [List.getElem?_append_right (by omega)]; simp)
    have au := hat (m.length + 2) xu (by rw [List.getElem?_append_right (by omega)]; simp)
    exact refSaid_long x0 x1 x2 m xc xr xu g cap w ⟨by omega, by omega⟩ hcap hg h0 h1 h2 a0.1 a1.1 a2.1 ac.1 ar.1 au.1 ⟨ar.2, au.2, a1.2, a2.2⟩

theorem refWords_arr (S : ByteArray) (l : List UInt8) (hS : S = ⟨l.toArray⟩) (w : World) (hl : l.length ≤ 2000) :
    Calls Tryz.prog 139 #[.string S] w fun e w' => ∃ v, e = .returned v ∧ w'.ownsRow w.heap.size 9 1 v (Sl.fields l).length (strV (Sl.fields l)) ∧ Below w.heap.size w w' := by
  subst hS; exact refWords_any l w hl

/-- An owned row's slice, as a slice. -/
theorem own_shape {w : World} {B e size n : Nat} {v : Value} {xs : List Value} (h : w.ownsRow B e size v n xs) : (v = .slice none 0 0 ∧ n = 0) ∨ ∃ g cap, v = .slice (some ⟨g, 0, none⟩) n cap ∧ n ≤ cap ∧ g < w.heap.size ∧ ∀ j u, xs[j]? = some u → w.cell? ⟨g, j, none⟩ = some u := by
  rcases h.2 with ⟨rfl, h2⟩ | ⟨g, cap, cur, rfl, _, hg, hcap, _⟩
  · exact .inl ⟨rfl, h2⟩
  · refine .inr ⟨g, cap, rfl, ?_, (Array.getElem?_eq_some_iff.1 hg).1, fun j u hu => ?_⟩
    · exact hcap
    · have := h.cells (g := g) rfl j u hu
      rw [addr_add] at this
      simpa using this

/-- Rows of two types share no block. -/
theorem own_apart {w : World} {B e size n B' e' size' n' : Nat} {v v' : Value} {xs xs' : List Value} (h : w.ownsRow B e size v n xs) (h' : w.ownsRow B' e' size' v' n' xs') (hne : e ≠ e') : v.ownBlock = none ∨ v.ownBlock ≠ v'.ownBlock := by
  rcases h.2 with ⟨rfl, _⟩ | ⟨g, cap, cur, rfl, _, hg, _⟩
  · exact .inl rfl
  · right
    rcases h'.2 with ⟨rfl, _⟩ | ⟨g', cap', cur', rfl, _, hg', _⟩
    · simp [Value.ownBlock]
    · simp only [Value.ownBlock]
      intro e1
      cases e1
      rw [hg] at hg'
      cases hg'
      exact hne rfl

theorem prefix_head {f : List UInt8} {b : UInt8} (h : f[0]? = some b) : Lib.hasPrefix f [35] = decide (b = 35) := by
  cases f with
  | nil => cases h
  | cons a r =>
    simp at h
    subst h
    have e : Lib.hasPrefix (a :: r) [35] = ((35 : UInt8) == a) := by simp [Lib.hasPrefix, List.isPrefixOf]
    rw [e, Bool.eq_iff_iff, beq_iff_eq, decide_eq_true_iff]
    exact ⟨fun h => h.symm, fun h => h.symm⟩

end Go.Proofs.YthmhfilkgggagaaGreatDoor
