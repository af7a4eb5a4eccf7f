/-
  The document's answer: the place of a line that speaks of something.
  The document's answer: the order of lines; numbers in decimals; the limit of a bucket.
-/
import Derived.Test.YtapbajcmnngamaaGreatDoorRefC
namespace Go.Proofs.YtapbajcmnngamaaGreatDoor
open Go.RowKit Go.Maps Go.Sort

def saidAll (l : List (Sl.Subj × Sl.Lim)) : List Value := l.flatMap fun x => saidC x.1 x.2

theorem saidAll_snoc (l : List (Sl.Subj × Sl.Lim)) (x : Sl.Subj × Sl.Lim) : saidAll (l ++ [x]) = saidAll l ++ saidC x.1 x.2 := by simp [saidAll]

theorem saidAll_at : ∀ (l : List (Sl.Subj × Sl.Lim)) (k : Nat) (hk : k < l.length) (j : Nat), j < 6 → (saidAll l)[k * 6 + j]? = (saidC l[k].1 l[k].2)[j]?
  | [], k, hk, _, _ => by simp at hk
  | x :: r, 0, _, j, hj => by
    show (saidC x.1 x.2 ++ saidAll r)[0 * 6 + j]? = _
    rw [List.getElem?_append_left (by simp [saidC]; omega)]; simp
  | x :: r, k + 1, hk, j, hj => by
    show (saidC x.1 x.2 ++ saidAll r)[(k + 1) * 6 + j]? = _
    rw [List.getElem?_append_right (by simp [saidC]; omega)]
    have e : (k + 1) * 6 + j - (saidC x.1 x.2).length = k * 6 + j := by simp [saidC]; omega
    rw [e, saidAll_at r k (by simpa using hk) j hj]; rfl

/-- The list of lines, as a slice. -/
def RefL (w : World) (v : Value) (l : List (Sl.Subj × Sl.Lim)) : Prop := (v = .slice none 0 0 ∧ l = []) ∨ ∃ g cap, v = .slice (some ⟨g, 0, none⟩) l.length cap ∧ g < w.heap.size ∧ ∀ j u, (saidAll l)[j]? = some u → w.cell? ⟨g, j, none⟩ = some u

theorem RefL.below {w w' : World} {v : Value} {l : List (Sl.Subj × Sl.Lim)} (h : RefL w v l) (hb : Below w.heap.size w w') : RefL w' v l := by
  rcases h with h | ⟨g, cap, rfl, hg, hc⟩
  · exact .inl h
  · exact .inr ⟨g, cap, rfl, Nat.lt_of_lt_of_le hg hb.size, fun j u hu => (hb.cell (p := ⟨g, j, none⟩) hg).trans (hc j u hu)⟩

theorem RefL.grown {w w' : World} {v : Value} {l : List (Sl.Subj × Sl.Lim)} {row : Option Nat} (h : RefL w v l) (hb : w.grownBy w' row) (hne : v.ownBlock = none ∨ v.ownBlock ≠ row) : RefL w' v l := by
  rcases h with h | ⟨g, cap, rfl, hg, hc⟩
  · exact .inl h
  · refine .inr ⟨g, cap, rfl, Nat.lt_of_lt_of_le hg hb.size, fun j u hu => ?_⟩
    rw [← hc j u hu]
    exact World.cell?_of_block (hb.block g hg (by
      rcases hne with hne | hne
      · simp [Value.ownBlock] at hne
      · simpa [Value.ownBlock] using hne))

theorem RefL.own {w : World} {base n : Nat} {v : Value} {l : List (Sl.Subj × Sl.Lim)} (h : w.ownsRow base 137 6 v n (saidAll l)) (hn : n = l.length) : RefL w v l := by
  subst hn
  rcases h.2 with ⟨rfl, h2⟩ | ⟨g, cap, cur, rfl, h1, hg, _⟩
  · left
    refine ⟨rfl, ?_⟩
    cases l with
    | nil => rfl
    | cons x r => simp at h2
  · right
    refine ⟨g, cap, rfl, (Array.getElem?_eq_some_iff.1 hg).1, fun j u hu => ?_⟩
    have := h.cells (g := g) rfl j u hu
    rw [addr_add] at this
    simpa using this

def findFrom (s : Sl.Subj) : List (Sl.Subj × Sl.Lim) → Nat → Int
  | [], _ => -1
  | x :: r, k => if Sl.sameS x.1 s = true then k else findFrom s r (k + 1)

theorem find_none (kind cls : Int) (s2 s3 : ByteArray) (w : World) :
    Calls Tryz.prog 83 #[.slice none 0 0, .int .i64 kind, .int .i64 cls, .string s2, .string s3] w fun e w' => e = .returned (.int .i64 (-1)) ∧ w' = w := by
  go_enter Tryz.func83, Tryz.ntmps83
  go_wp2_with fail
  go_loopw [11] (fun t wr => wr = w ∧ t = .int .i64 0) (fun t _ => 1 - (intOf t).toNat)
  case atStart => exact ⟨rfl, rfl⟩
  case round =>
    obtain ⟨rfl, rfl⟩ := hrel
    go_wp2
    go_ret
    exact ⟨rfl, rfl⟩

set_option maxRecDepth 100000 in
set_option maxHeartbeats 4000000 in
theorem find_some (l : List (Sl.Subj × Sl.Lim)) (g cap : Nat) (s : Sl.Subj) (w : World) (hc : ∀ j u, (saidAll l)[j]? = some u → w.cell? ⟨g, j, none⟩ = some u) (hn : l.length ≤ 2001) :
    Calls Tryz.prog 83 #[.slice (some ⟨g, 0, none⟩) l.length cap, .int .i64 s.kind, .int .i64 s.cls, .string ⟨s.org.toArray⟩, .string ⟨s.ten.toArray⟩] w fun e w' => e = .returned (.int .i64 (findFrom s l 0)) ∧ w' = w := by
  have HC := hide hc; clear hc
  obtain ⟨R, hR⟩ : ∃ R, R = findFrom s l 0 := ⟨_, rfl⟩
  rw [← hR]
  have HR := hide hR; clear hR
  obtain ⟨B2, hB2⟩ : ∃ B : ByteArray, B = ⟨s.org.toArray⟩ := ⟨_, rfl⟩
  obtain ⟨B3, hB3⟩ : ∃ B : ByteArray, B = ⟨s.ten.toArray⟩ := ⟨_, rfl⟩
  rw [← hB2, ← hB3]
  have HB2 := hide hB2; have HB3 := hide hB3; clear hB2 hB3
  generalize hsk : s.kind = sk
  generalize hsc : s.cls = sc
  have HSK := hide hsk; have HSC := hide hsc; clear hsk hsc
  go_enter Tryz.func83, Tryz.ntmps83
  go_wp2_with fail
  go_loopw [11] (fun t wr => wr = w ∧ ∃ k : Nat, k ≤ l.length ∧ t = .int .i64 k ∧ findFrom s (l.drop k) k = R) (fun t _ => l.length - (intOf t).toNat)
  case atStart => exact ⟨rfl, 0, Nat.zero_le _, rfl, by rw [unhide HR]; rfl⟩
  case round =>
    obtain ⟨rfl, k, hk, rfl, hf⟩ := hrel
    by_cases hlt : k < l.length
    · have hdrop : l.drop k = l[k] :: l.drop (k + 1) := List.drop_eq_getElem_cons hlt
      have hcell : ∀ j, j < 6 → ∀ u, (saidC l[k].1 l[k].2)[j]? = some u → wr.cell? ⟨g, k * 6 + j, none⟩ = some u := by
        intro j hj u hu
        exact unhide HC _ _ (by rw [saidAll_at l k hlt j hj]; exact hu)
      generalize hae : l[k] = a at *
      obtain ⟨a, am⟩ := a
      rw [hdrop] at hf
      have HF := hide hf
      have c0 : wr.cell? ⟨g, k * 6, none⟩ = some (.int .i64 a.kind) := hcell 0 (by omega) _ rfl
      have c1 : wr.cell? ⟨g, k * 6 + 1, none⟩ = some (.int .i64 a.cls) := hcell 1 (by omega) _ rfl
      have c2 : wr.cell? ⟨g, k * 6 + 2, none⟩ = some (.string ⟨a.org.toArray⟩) := hcell 2 (by omega) _ rfl
      have c3 : wr.cell? ⟨g, k * 6 + 3, none⟩ = some (.string ⟨a.ten.toArray⟩) := hcell 3 (by omega) _ rfl
      obtain ⟨A2, hA2⟩ : ∃ B : ByteArray, B = ⟨a.org.toArray⟩ := ⟨_, rfl⟩
      obtain ⟨A3, hA3⟩ : ∃ B : ByteArray, B = ⟨a.ten.toArray⟩ := ⟨_, rfl⟩
      rw [← hA2] at c2
      rw [← hA3] at c3
      have e2 : (A2.toList == B2.toList) = (a.org == s.org) := by rw [Sl.str_eq, hA2, unhide HB2, Bool.eq_iff_iff]; simp
      have e3 : (A3.toList == B3.toList) = (a.ten == s.ten) := by rw [Sl.str_eq, hA3, unhide HB3, Bool.eq_iff_iff]; simp
      have E2 := hide e2; have E3 := hide e3
      have hno : Sl.sameS a s = false → findFrom s (l.drop (k + 1)) (k + 1) = R := by
        intro h
        have h2 := unhide HF
        unfold findFrom at h2
        rw [if_neg (by rw [h]; simp)] at h2
        exact h2
      have HNO := hide hno
      clear hcell hdrop hae hf hA2 hA3 e2 e3 hno
      by_cases k0 : a.kind = sk
      · rw [k0] at c0
        by_cases k1 : a.cls = sc
        · rw [k1] at c1
          cases q2 : (A2.toList == B2.toList) with
          | true =>
            cases q3 : (A3.toList == B3.toList) with
            | true =>
              have HE : Hid (R = k) := hide (by
                rw [← unhide HF]
                unfold findFrom
                rw [if_pos]
                rw [unhide E2] at q2; rw [unhide E3] at q3
                simp [Sl.sameS, q2, q3, k0, k1, unhide HSK, unhide HSC])
              clear k0 k1
              go_wp2
              go_ret
              exact ⟨by rw [unhide HE]; rfl, rfl⟩
            | false =>
              have HE : Hid (findFrom s (l.drop (k + 1)) (k + 1) = R) := hide (unhide HNO (by
                rw [unhide E3] at q3
                simp [Sl.sameS, q3]))
              clear k0 k1
              go_wp2
              go_roundw
              case rel => exact ⟨trivial, k + 1, by omega, by go_num, unhide HE⟩
              case measure => simp [intOf]; omega
          | false =>
            have HE : Hid (findFrom s (l.drop (k + 1)) (k + 1) = R) := hide (unhide HNO (by
              rw [unhide E2] at q2
              simp [Sl.sameS, q2]))
            clear k0 k1
            go_wp2
            go_roundw
            case rel => exact ⟨trivial, k + 1, by omega, by go_num, unhide HE⟩
            case measure => simp [intOf]; omega
        · have HE : Hid (findFrom s (l.drop (k + 1)) (k + 1) = R) := hide (unhide HNO (by
            have h2 : (a.cls == s.cls) = false := by rw [unhide HSC, beq_eq_false_iff_ne]; exact k1
            simp [Sl.sameS, h2]))
          have q1 : ((a.cls : Int) == (sc : Int)) = false := by rw [beq_eq_false_iff_ne]; omega
          clear k0 k1
          go_wp2
          go_roundw
          case rel => exact ⟨trivial, k + 1, by omega, by go_num, unhide HE⟩
          case measure => simp [intOf]; omega
      · have HE : Hid (findFrom s (l.drop (k + 1)) (k + 1) = R) := hide (unhide HNO (by
          have h2 : (a.kind == s.kind) = false := by rw [unhide HSK, beq_eq_false_iff_ne]; exact k0
          simp [Sl.sameS, h2]))
        have q1 : ((a.kind : Int) == (sk : Int)) = false := by rw [beq_eq_false_iff_ne]; omega
        clear k0
        go_wp2
        go_roundw
        case rel => exact ⟨trivial, k + 1, by omega, by go_num, unhide HE⟩
        case measure => simp [intOf]; omega
    · have e : l.drop k = [] := List.drop_eq_nil_of_le (by omega)
      rw [e] at hf
      have HF : Hid (R = -1) := hide (by rw [← hf]; rfl)
      clear hf e
      go_wp2
      go_ret
      exact ⟨by rw [unhide HF]; rfl, rfl⟩

theorem find_any (l : List (Sl.Subj × Sl.Lim)) (v : Value) (s : Sl.Subj) (w : World) (h : RefL w v l) (hn : l.length ≤ 2001) :
    Calls Tryz.prog 83 #[v, .int .i64 s.kind, .int .i64 s.cls, .string ⟨s.org.toArray⟩, .string ⟨s.ten.toArray⟩] w fun e w' => e = .returned (.int .i64 (findFrom s l 0)) ∧ w' = w := by
  rcases h with ⟨rfl, rfl⟩ | ⟨g, cap, rfl, _, hc⟩
  · exact find_none _ _ _ _ w
  · exact find_some l g cap s w hc hn

end Go.Proofs.YtapbajcmnngamaaGreatDoor

namespace Go.Proofs.YtapbajcmnngamaaGreatDoor
open Go.RowKit Go.Maps Go.Sort

/-- Does a line stand ahead of another one? -/
def beforeB (ka ca : Int) (oa ta : List UInt8) (kb cb : Int) (ob tb : List UInt8) : Bool :=
  if ka = kb then (if oa = ob then (if ta = tb then decide (ca < cb) else Op.bytesLess ta tb) else Op.bytesLess oa ob) else decide (ka < kb)

set_option maxRecDepth 100000 in
set_option maxHeartbeats 4000000 in
theorem before_any (ka ca : Int) (oa ta : List UInt8) (ra ua : Int) (kb cb : Int) (ob tb : List UInt8) (rb ub : Int) (w : World) :
    Calls Tryz.prog 59 #[said6 ka ca ⟨oa.toArray⟩ ⟨ta.toArray⟩ ra ua, said6 kb cb ⟨ob.toArray⟩ ⟨tb.toArray⟩ rb ub] w fun e w' => e = .returned (.bool (beforeB ka ca oa ta kb cb ob tb)) ∧ Below w.heap.size w w' := by
  obtain ⟨A2, hA2⟩ : ∃ B : ByteArray, B = ⟨oa.toArray⟩ := ⟨_, rfl⟩
  obtain ⟨A3, hA3⟩ : ∃ B : ByteArray, B = ⟨ta.toArray⟩ := ⟨_, rfl⟩
  obtain ⟨B2, hB2⟩ : ∃ B : ByteArray, B = ⟨ob.toArray⟩ := ⟨_, rfl⟩
  obtain ⟨B3, hB3⟩ : ∃ B : ByteArray, B = ⟨tb.toArray⟩ := ⟨_, rfl⟩
  rw [← hA2, ← hA3, ← hB2, ← hB3]
  have e2 : (A2.toList == B2.toList) = decide (oa = ob) := by rw [Sl.str_eq, hA2, hB2]
  have e3 : (A3.toList == B3.toList) = decide (ta = tb) := by rw [Sl.str_eq, hA3, hB3]
  have l2 : Op.bytesLess A2.toList B2.toList = Op.bytesLess oa ob := by rw [ByteArray.toList_eq, ByteArray.toList_eq, hA2, hB2]
  have l3 : Op.bytesLess A3.toList B3.toList = Op.bytesLess ta tb := by rw [ByteArray.toList_eq, ByteArray.toList_eq, hA3, hB3]
  obtain ⟨R, hR⟩ : ∃ R, R = beforeB ka ca oa ta kb cb ob tb := ⟨_, rfl⟩
  rw [← hR]
  have HR := hide hR; have E2 := hide e2; have E3 := hide e3; have L2 := hide l2; have L3 := hide l3
  clear hR e2 e3 l2 l3 hA2 hA3 hB2 hB3
  by_cases k : ka = kb
  · subst k
    by_cases q2 : oa = ob
    · have p2 : (A2.toList == B2.toList) = true := by rw [unhide E2]; exact decide_eq_true q2
      by_cases q3 : ta = tb
      · have p3 : (A3.toList == B3.toList) = true := by rw [unhide E3]; exact decide_eq_true q3
        have HE : Hid (R = decide (ca < cb)) := hide (by rw [unhide HR]; unfold beforeB; rw [if_pos rfl, if_pos q2, if_pos q3])
        clear q2 q3
        go_enter Tryz.func59, Tryz.ntmps59
        go_wp2
        go_ret
        exact ⟨ret_bool (unhide HE).symm, below_two _ _ _⟩
      · have p3 : (A3.toList == B3.toList) = false := by rw [unhide E3]; exact decide_eq_false q3
        have HE : Hid (R = Op.bytesLess A3.toList B3.toList) := hide (by rw [unhide HR, unhide L3]; unfold beforeB; rw [if_pos rfl, if_pos q2, if_neg q3])
        clear q2 q3
        go_enter Tryz.func59, Tryz.ntmps59
        go_wp2
        go_ret
        exact ⟨ret_bool (unhide HE).symm, below_two _ _ _⟩
    · have p2 : (A2.toList == B2.toList) = false := by rw [unhide E2]; exact decide_eq_false q2
      have HE : Hid (R = Op.bytesLess A2.toList B2.toList) := hide (by rw [unhide HR, unhide L2]; unfold beforeB; rw [if_pos rfl, if_neg q2])
      clear q2
      go_enter Tryz.func59, Tryz.ntmps59
      go_wp2
      go_ret
      exact ⟨ret_bool (unhide HE).symm, below_two _ _ _⟩
  · have p : (ka == kb) = false := by rw [beq_eq_false_iff_ne]; exact k
    have HE : Hid (R = decide (ka < kb)) := hide (by rw [unhide HR]; unfold beforeB; rw [if_neg k])
    clear k
    go_enter Tryz.func59, Tryz.ntmps59
    go_wp2
    go_ret
    exact ⟨ret_bool (unhide HE).symm, below_two _ _ _⟩

set_option maxRecDepth 100000 in
set_option maxHeartbeats 1000000 in
theorem refText_num (n : Nat) (hn : n ≤ 9223372036854775807) : ∀ (w : World),
    Calls Tryz.prog 60 #[.int .i64 n] w fun e w' => e = .returned (.string ⟨(Lib.decDigits n).toArray⟩) ∧ Below w.heap.size w w' := by
  induction n using Nat.strongRecOn with
  | _ n ih =>
    intro w
    have hcv := last_digit w n
    generalize hdg : UInt8.ofNat (48 + n % 10) = dg at *
    by_cases h10 : n < 10
    · have hd : Lib.decDigits n = [dg] := by rw [← hdg, Lib.decDigits_one h10, Nat.mod_eq_of_lt h10]
      rw [hd]
      clear ih hd hdg
      go_enter Tryz.func60, Tryz.ntmps60
      go_wp2
      go_ret
      exact ⟨rfl, Below.alloc1 _ _⟩
    · have hd : Lib.decDigits n = Lib.decDigits (n / 10) ++ [dg] := by rw [← hdg, Lib.decDigits, dif_neg h10]
      have hih := ih (n / 10) (by omega) (by omega)
      have hq : ((n / 10 : Nat) : Int) = (n : Int) / 10 := by omega
      have hl : (Lib.decDigits (n / 10)).length ≤ 20 := dec_len (n / 10) 19 (by omega)
      rw [hq] at hih
      have HIH := hide hih; have HD := hide hd
      clear ih hd hih hq hdg
      go_enter Tryz.func60, Tryz.ntmps60
      go_wp2_with fail
      refine (unhide HIH _).mono ?_
      rintro e w2 ⟨rfl, hb⟩
      go_wp2
      go_ret
      rw [unhide HD]
      exact ⟨cat_ret _ _ _ rfl, (Below.alloc1 _ _).trans (hb.mono (by simp))⟩

/-- What named answers. -/
def namedV (cls org ten : List UInt8) : Value := match bucketS cls org ten with
  | some c => .tuple #[.int .i64 c, .int .i64 0]
  | none => .tuple #[.int .i64 0, .int .i64 5]

theorem ret_tuple {v x : Value} (h : x = v) : Ending.returned v = .returned x := by rw [h]

set_option maxRecDepth 100000 in
set_option maxHeartbeats 4000000 in
theorem named_any (cls org ten : List UInt8) (w : World) (ho : org.length ≤ 281474976710656) (ht : ten.length ≤ 281474976710656) :
    Calls Tryz.prog 61 #[.string ⟨cls.toArray⟩, .string ⟨org.toArray⟩, .string ⟨ten.toArray⟩] w fun e w' => e = .returned (namedV cls org ten) ∧ w' = w := by
  have hcl := hide (refClass_any cls w)
  have hn1 := hide (refName_any org w ho)
  have hn2 := refName_any ten w ht
  obtain ⟨T, hT⟩ : ∃ T : ByteArray, T = ⟨ten.toArray⟩ := ⟨_, rfl⟩
  rw [← hT] at hn2 ⊢
  have hn2 := hide hn2
  have hemp : T.toList = ten := by rw [ByteArray.toList_eq, hT]
  obtain ⟨R, hR⟩ : ∃ R, R = namedV cls org ten := ⟨_, rfl⟩
  rw [← hR]
  have HR := hide hR
  have HEM := hide hemp
  clear hT hR hemp
  go_enter Tryz.func61, Tryz.ntmps61
  go_wp2_with fail
  refine (unhide hcl).mono ?_
  rintro e w1 ⟨rfl, rfl⟩
  go_wp2_with fail
  refine (unhide hn1).mono ?_
  rintro e w2 ⟨rfl, rfl⟩
  go_wp2_with fail
  refine (unhide hn2).mono ?_
  rintro e w3 ⟨rfl, rfl⟩
  clear hcl hn1 hn2
  cases hc : Sl.classOf cls with
  | none =>
    have e : classI cls = -1 := by unfold classI; rw [hc]
    have HE : Hid (R = .tuple #[.int .i64 0, .int .i64 5]) := hide (by rw [unhide HR]; unfold namedV bucketS; rw [hc])
    rw [e]
    clear hc e
    go_wp2
    go_ret2
    exact ⟨ret_tuple (unhide HE), rfl⟩
  | some c =>
    have e : classI cls = c := by unfold classI; rw [hc]
    have hbs : bucketS cls org ten = if Sl.isName org = true ∧ (ten = [] ∨ Sl.isName ten = true) then some c else none := by unfold bucketS; rw [hc]
    rw [e]
    have hc0 : ¬ (c : Int) < 0 := by omega
    cases ho1 : Sl.isName org with
    | false =>
      have HE : Hid (R = .tuple #[.int .i64 0, .int .i64 5]) := hide (by rw [unhide HR]; unfold namedV; rw [hbs, if_neg (by rw [ho1]; simp)])
      clear hc e hbs ho1
      go_wp2
      go_ret2
      exact ⟨ret_tuple (unhide HE), rfl⟩
    | true =>
      by_cases h0 : ten = []
      · have q0 : T.toList = [] := by rw [unhide HEM]; exact h0
        have HE : Hid (R = .tuple #[.int .i64 c, .int .i64 0]) := hide (by rw [unhide HR]; unfold namedV; rw [hbs, if_pos ⟨ho1, .inl h0⟩])
        clear hc e hbs ho1 h0
        go_wp2
        go_ret2
        exact ⟨ret_tuple (unhide HE), rfl⟩
      · have q0 : ¬ T.toList = [] := by rw [unhide HEM]; exact h0
        have q1 : T.toList.isEmpty = false := by rw [unhide HEM]; cases ten with
          | nil => exact absurd rfl h0
          | cons a r => rfl
        cases ht1 : Sl.isName ten with
        | true =>
          have HE : Hid (R = .tuple #[.int .i64 c, .int .i64 0]) := hide (by rw [unhide HR]; unfold namedV; rw [hbs, if_pos ⟨ho1, .inr ht1⟩])
          clear hc e hbs ho1 h0 ht1
          go_wp2
          go_ret2
          exact ⟨ret_tuple (unhide HE), rfl⟩
        | false =>
          have HE : Hid (R = .tuple #[.int .i64 0, .int .i64 5]) := hide (by
            rw [unhide HR]; unfold namedV
            rw [hbs, if_neg (by rw [ht1]; simp [h0])])
          clear hc e hbs ho1 h0 ht1
          go_wp2
          go_ret2
          exact ⟨ret_tuple (unhide HE), rfl⟩

end Go.Proofs.YtapbajcmnngamaaGreatDoor
