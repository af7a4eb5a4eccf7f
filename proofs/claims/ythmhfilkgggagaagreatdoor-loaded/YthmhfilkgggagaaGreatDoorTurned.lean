/-
  turned: the lines of a text from the last to the first, with blanks, noughts, and lines that say nothing.
-/
import Derived.Test.YthmhfilkgggagaaGreatDoorTold2
namespace Go.Proofs.YthmhfilkgggagaaGreatDoor
open Go.RowKit Go.Maps Go.Sort

def flat (ls : List (List UInt8)) : List UInt8 := ls.flatMap (· ++ [10])

def expand : List UInt8 → List UInt8
  | [] => []
  | [x] => [x]
  | x :: y :: r => x :: (if x = 32 then 32 :: 32 :: (if 49 ≤ y.toNat ∧ y.toNat ≤ 57 then [48] else []) else []) ++ expand (y :: r)

def turnL (l : List UInt8) : List UInt8 := [32] ++ expand l ++ [32, 10, 32, 32, 10]
def trn (ls : List (List UInt8)) : List UInt8 := ls.reverse.flatMap turnL
def turnT (ls : List (List UInt8)) : List UInt8 := [35, 32, 10] ++ trn ls ++ [35, 100, 101, 102, 97, 117, 108, 116]

/-- A line that says something, as it is told: it is not empty, ends on no blank. -/
structure LineOk (l : List UInt8) : Prop where
  some : l ≠ []
  noTen : ∀ x ∈ l, x ≠ 10
  last : l.getLast? ≠ .some 32

theorem trn_snoc (ls : List (List UInt8)) (l : List UInt8) : trn (ls ++ [l]) = turnL l ++ trn ls := by simp [trn]
theorem flat_snocL (ls : List (List UInt8)) (l : List UInt8) : flat (ls ++ [l]) = flat ls ++ l ++ [10] := by simp [flat]

theorem expand_len : ∀ l : List UInt8, (expand l).length ≤ 4 * l.length
  | [] => by simp [expand]
  | [x] => by simp [expand]
  | x :: y :: r => by
    have := expand_len (y :: r)
    unfold expand
    rw [List.length_append]
    have h2 : (x :: (if x = 32 then 32 :: 32 :: (if 49 ≤ y.toNat ∧ y.toNat ≤ 57 then [48] else []) else [])).length ≤ 4 := by
      split <;> (try split) <;> simp
    simp at this ⊢
    simp at h2
    omega

theorem expand_drop_one (l : List UInt8) (k : Nat) (hk : k < l.length) (h : l[k] ≠ 32) : expand (l.drop k) = [l[k]] ++ expand (l.drop (k + 1)) := by
  rw [List.drop_eq_getElem_cons hk]
  cases hr : l.drop (k + 1) with
  | nil => simp [expand]
  | cons y r => simp [expand, h]

theorem expand_drop_blank (l : List UInt8) (k : Nat) (hk : k + 1 < l.length) (h : l[k] = 32) : expand (l.drop k) = [l[k]] ++ [32, 32] ++ (if 49 ≤ l[k + 1].toNat ∧ l[k + 1].toNat ≤ 57 then [48] else []) ++ expand (l.drop (k + 1)) := by
  rw [List.drop_eq_getElem_cons (by omega : k < l.length), List.drop_eq_getElem_cons hk]
  simp [expand, h]

theorem idx_ex (S : ByteArray) (l : List UInt8) (hS : S = ⟨l.toArray⟩) (i : Int) (k : Nat) (b : UInt8) (hi : i = k) (hb : l[k]? = some b) : ∀ w, (Instr.index 9 (.string S) (.int .i64 i)).run Tryz.prog w = .ok (.int .u8 (b.toNat : Nat)) w := by
  subst hS hi
  intro w
  obtain ⟨hk, rfl⟩ := List.getElem?_eq_some_iff.1 hb
  have hz : (⟨l.toArray⟩ : ByteArray).size = l.length := by show l.toArray.size = _; simp
  rw [run_index_string w 9 ⟨l.toArray⟩ .i64 (k : Int) Tryz.underlying9, dif_pos ⟨by omega, by rw [hz]; omega⟩]
  rfl

theorem slc_ex (S : ByteArray) (l : List UInt8) (hS : S = ⟨l.toArray⟩) (i j : Int) (a b : Nat) (hi : i = a) (hj : j = b) (hab : a ≤ b) (hb : b ≤ l.length) : ∃ L : ByteArray, L = ⟨((l.drop a).take (b - a)).toArray⟩ ∧ ∀ w, (Instr.slice 9 (.string S) (some (.int .i64 i)) (some (.int .i64 j)) none).run Tryz.prog w = .ok (.string L) w := by
  refine ⟨_, rfl, fun w => ?_⟩
  subst hS hi hj
  have hz : (⟨l.toArray⟩ : ByteArray).size = l.length := by show l.toArray.size = _; simp
  rw [run_slice_string w 9 ⟨l.toArray⟩ .i64 .i64 (a : Int) (b : Int) Tryz.underlying9 (by omega) (by omega) (by rw [hz]; omega)]
  simp [ByteArray.extract_mk]

theorem flat_in (pre post : List (List UInt8)) (l : List UInt8) (j : Nat) (hj : j < l.length) : (flat (pre ++ [l] ++ post))[(flat pre).length + j]? = some l[j] := by
  have e : flat (pre ++ [l] ++ post) = flat pre ++ (l ++ ([10] ++ flat post)) := by simp [flat]
  rw [e, List.getElem?_append_right (by omega), List.getElem?_append_left (by omega)]
  simp [hj]

theorem flat_prev (pre r : List (List UInt8)) (n : Nat) (hn : (flat pre).length = n + 1) : (flat (pre ++ r))[n]? = some 10 := by
  rcases List.eq_nil_or_concat pre with rfl | ⟨m, l, rfl⟩
  · simp [flat] at hn
  · rw [List.concat_eq_append] at *
    rw [flat_snocL] at hn
    have e : flat (m ++ [l] ++ r) = (flat m ++ l) ++ ([10] ++ flat r) := by simp [flat]
    rw [e, List.getElem?_append_right (by simp at hn ⊢; omega)]
    have : n - (flat m ++ l).length = 0 := by simp at hn ⊢; omega
    rw [this]; rfl

theorem flat_line (pre post : List (List UInt8)) (l : List UInt8) : ((flat (pre ++ [l] ++ post)).drop (flat pre).length).take l.length = l := by
  have e : flat (pre ++ [l] ++ post) = flat pre ++ (l ++ ([10] ++ flat post)) := by simp [flat]
  rw [e]; simp

theorem flat_pos {pre : List (List UInt8)} (h : pre ≠ []) : 0 < (flat pre).length := by
  cases pre with
  | nil => exact absurd rfl h
  | cons a r => simp [flat]; omega

/-- Where turned stands: at no line, or within one. -/
def Stand (pre : List (List UInt8)) (v : Value) : Prop := (pre = [] ∧ v = .int .i64 (-1)) ∨
  ∃ (pre' : List (List UInt8)) (l : List UInt8) (n : Nat), pre = pre' ++ [l] ∧ (flat pre').length ≤ n ∧ n ≤ (flat pre').length + l.length ∧ v = .int .i64 n

theorem Stand.done {pre : List (List UInt8)} (h : pre = []) : Stand pre (.int .i64 (-1)) := .inl ⟨h, rfl⟩
theorem Stand.at_ {pre : List (List UInt8)} (pre' : List (List UInt8)) (l : List UInt8) (n : Nat) (h : pre = pre' ++ [l]) (h1 : (flat pre').length ≤ n) (h2 : n ≤ (flat pre').length + l.length) : Stand pre (.int .i64 n) := .inr ⟨pre', l, n, h, h1, h2, rfl⟩

theorem stand_end (pre : List (List UInt8)) : Stand pre (.int .i64 (((flat pre).length : Int) - 1)) := by
  rcases List.eq_nil_or_concat pre with rfl | ⟨m, l, rfl⟩
  · exact .done rfl
  · rw [List.concat_eq_append]
    have h : (((flat (m ++ [l])).length : Int) - 1) = (((flat m).length + l.length : Nat) : Int) := by rw [flat_snocL]; simp; omega
    rw [h]
    exact .at_ m l _ rfl (by omega) (by omega)

set_option maxRecDepth 100000 in
set_option maxHeartbeats 4000000 in
theorem turned_any (ls : List (List UInt8)) (w : World) (hok : ∀ l ∈ ls, LineOk l) (hT : (turnT ls).length ≤ 1000000) (hF : (flat ls).length ≤ 1000000) :
    Calls Tryz.prog 17 #[.string ⟨(flat ls).toArray⟩] w fun e w' => e = .returned (.string ⟨(turnT ls).toArray⟩) ∧ w' = w := by
  have hz : (⟨(flat ls).toArray⟩ : ByteArray).size = (flat ls).length := by show (flat ls).toArray.size = _; simp
  obtain ⟨S, hS⟩ : ∃ S : ByteArray, S = ⟨(flat ls).toArray⟩ := ⟨_, rfl⟩
  rw [← hS] at hz ⊢
  have HS := hide hS; have HOK := hide hok; have HT := hide hT
  clear hS hok hT
  go_enter Tryz.func17, Tryz.ntmps17
  go_wp2_with fail
  go_loopw [3, 4, 5] (fun vo vt vi wr => wr = w ∧ ∃ pre post ob, ls = pre ++ post ∧ vt = .int .i64 ((flat pre).length : Nat) ∧ vo = .string ⟨ob.toArray⟩ ∧ ob ++ trn pre = [35, 32, 10] ++ trn ls ∧ Stand pre vi) (fun _ _ vi _ => (intOf vi + 1).toNat)
  case atStart => exact ⟨rfl, ls, [], [35, 32, 10], by simp, rfl, rfl, rfl, stand_end ls⟩
  case round =>
    obtain ⟨rfl, pre, post, ob, hls, rfl, rfl, hob, hst⟩ := hrel
    have hobl : ob.length ≤ 1000000 := by
      have h1 := congrArg List.length hob
      have h2 := unhide HT
      unfold turnT at h2
      simp at h1 h2
      omega
    rcases hst with ⟨he, hv⟩ | ⟨pre', l, n, he, h1, h2, hv⟩
    · subst hv
      subst he
      have hobT : Hid (ob ++ [35, 100, 101, 102, 97, 117, 108, 116] = turnT ls) := hide (by unfold turnT; rw [← hob]; simp [trn])
      obtain ⟨s1, e1, k1⟩ := cat_ex ⟨ob.toArray⟩ ⟨#[35, 100, 101, 102, 97, 117, 108, 116]⟩ ob [35, 100, 101, 102, 97, 117, 108, 116] rfl rfl (by simp; omega)
      have E1 := hide e1
      clear e1 hob hls
      go_wp2
      go_ret
      exact ⟨ret_str (by rw [unhide E1, unhide hobT]), rfl⟩
    · subst hv
      subst he
      have hlok : LineOk l := unhide HOK l (by rw [hls]; simp)
      have hSz : (flat pre').length + l.length + 1 ≤ (flat ls).length := by rw [hls]; simp [flat]; omega
      by_cases hn : (flat pre').length < n
      · obtain ⟨b, hb⟩ : ∃ b, l[n - 1 - (flat pre').length]? = some b := ⟨_, List.getElem?_eq_getElem (by omega)⟩
        have hb10 : b ≠ 10 := by
          obtain ⟨hk, rfl⟩ := List.getElem?_eq_some_iff.1 hb
          exact hlok.noTen _ (List.getElem_mem hk)
        have hfb : (flat ls)[n - 1]? = some b := by
          have h3 := flat_in pre' post l (n - 1 - (flat pre').length) (by omega)
          have h4 : (flat pre').length + (n - 1 - (flat pre').length) = n - 1 := by omega
          rw [h4, ← hls] at h3
          obtain ⟨hk, rfl⟩ := List.getElem?_eq_some_iff.1 hb
          exact h3
        have hix := idx_ex S (flat ls) (unhide HS) ((n : Int) - 1) (n - 1) b (by omega) hfb
        have hbn : ((b.toNat : Int) == 10) = false := by
          rw [beq_eq_false_iff_ne]
          intro e
          exact hb10 (UInt8.toNat_inj.1 (by show b.toNat = 10; omega))
        have hnp : (0 : Int) < n := by omega
        have HST : Hid (Stand (pre' ++ [l]) (.int .i64 ((n : Int) - 1))) := hide (by
          have e : ((n : Int) - 1) = ((n - 1 : Nat) : Int) := by omega
          rw [e]
          exact .at_ pre' l (n - 1) rfl (by omega) (by omega))
        have HLS := hide hls; have HOB := hide hob
        generalize hbt : b.toNat = bt at *
        clear hb hb10 hfb hbt hlok hls hob
        go_wp2
        go_roundw
        case rel => exact ⟨trivial, _, _, ob, unhide HLS, rfl, rfl, unhide HOB, unhide HST⟩
        case measure => simp [intOf]
      · have hne : n = (flat pre').length := by omega
        have HNE := hide hne
        have hTo : (flat (pre' ++ [l])).length = n + l.length + 1 := by rw [flat_snocL, hne]; simp; omega
        obtain ⟨L, hL, kL⟩ := slc_ex S (flat ls) (unhide HS) (n : Int) (((flat (pre' ++ [l])).length : Int) - 1) n (n + l.length) rfl (by omega) (by omega) (by omega)
        have hL2 : L = ⟨l.toArray⟩ := by
          have e := flat_line pre' post l
          rw [← hne, ← hls] at e
          have e2 : n + l.length - n = l.length := by omega
          rw [hL, e2, e]
        have hLz : L.size = l.length := by rw [hL2]; show l.toArray.size = _; simp
        have HL := hide hL2
        have hlen4 := expand_len l
        have HEL : Hid ((expand l).length ≤ 4 * l.length ∧ l.length ≤ 1000000 ∧ (ob ++ [32] ++ expand l).length ≤ 1000000) := hide (by
          refine ⟨hlen4, by omega, ?_⟩
          have h3 := congrArg List.length hob
          have h4 := unhide HT
          rw [trn_snoc] at h3
          unfold turnT at h4
          unfold turnL at h3
          simp at h3 h4 ⊢
          omega)
        have HSE : Hid (Stand pre' (.int .i64 ((n : Int) - 1))) := hide (by rw [hne]; exact stand_end pre')
        obtain ⟨s1, e1, k1⟩ := cat_ex ⟨ob.toArray⟩ ⟨#[32]⟩ ob [32] rfl rfl (by simp; omega)
        have E1 := hide e1
        have HLO := hide hlok; have HLS := hide hls; have HOB := hide hob
        generalize hTv : (flat (pre' ++ [l])).length = T at *
        have hT1 : 1 ≤ T := by omega
        have hT2 : T ≤ 1000001 := by omega
        have hn2 : n ≤ 1000000 := by omega
        have hl2 : l.length ≤ 1000000 := by omega
        clear hL hL2 e1 hlok hls hob hne hlen4 hTv hn h1 h2 hTo
        by_cases hz0 : n = 0
        · have hn0 : ¬ (0 : Int) < (n : Int) := by omega
          have hn1 : (0 : Int) ≤ (n : Int) := by omega
          clear hz0
          go_wp2_with fail
          obtain ⟨wo, rfl⟩ : ∃ wo : World, wo = wr := ⟨_, rfl⟩
          go_loopw [3, 7] (fun vo vk wr => wr = wo ∧ ∃ (k : Nat) (oc : List UInt8), k ≤ l.length ∧ vk = .int .i64 k ∧ vo = .string ⟨oc.toArray⟩ ∧ oc ++ expand (l.drop k) = ob ++ [32] ++ expand l) (fun _ vk _ => l.length - (intOf vk).toNat)
          case atStart => exact ⟨rfl, 0, ob ++ [32], Nat.zero_le _, rfl, by rw [unhide E1], by simp⟩
          case round =>
            obtain ⟨rfl, k, oc, hk, rfl, rfl, hoc⟩ := hrel
            have hocl : oc.length ≤ 2000000 := by
              have h1 := congrArg List.length hoc
              have h3 := (unhide HEL).2.2
              rw [List.length_append] at h1
              omega
            by_cases hkl : k < l.length
            · have hki : (k : Int) < (l.length : Int) := by omega
              obtain ⟨b, hb⟩ : ∃ b, l[k]? = some b := ⟨_, List.getElem?_eq_getElem hkl⟩
              have hbe : l[k] = b := by rw [List.getElem?_eq_getElem hkl] at hb; exact Option.some.inj hb
              obtain ⟨P1, p1, q1⟩ := slc_ex L l (unhide HL) (k : Int) ((k : Int) + 1) k (k + 1) rfl (by omega) (by omega) (by omega)
              have hp1 : P1 = ⟨[b].toArray⟩ := by
                rw [p1, List.drop_eq_getElem_cons hkl, hbe]
                have : k + 1 - k = 1 := by omega
                rw [this]; simp
              obtain ⟨s2, e2, k2⟩ := cat_ex ⟨oc.toArray⟩ P1 oc [b] rfl hp1 (by simp; omega)
              have hib := idx_ex L l (unhide HL) (k : Int) k b rfl hb
              by_cases h32 : b = 32
              · have hk1 : k + 1 < l.length := by
                  by_cases h : k + 1 < l.length
                  · exact h
                  · exfalso
                    have hl := (unhide HLO).last
                    rw [List.getLast?_eq_getElem?] at hl
                    have e : l.length - 1 = k := by omega
                    rw [e, hb, h32] at hl
                    exact hl rfl
                obtain ⟨d, hd⟩ : ∃ d, l[k + 1]? = some d := ⟨_, List.getElem?_eq_getElem hk1⟩
                have hde : l[k + 1] = d := by rw [List.getElem?_eq_getElem hk1] at hd; exact Option.some.inj hd
                have hid := idx_ex L l (unhide HL) ((k : Int) + 1) (k + 1) d (by omega) hd
                obtain ⟨s3, e3, k3⟩ := cat_ex s2 ⟨#[32, 32]⟩ (oc ++ [b]) [32, 32] e2 rfl (by simp; omega)
                obtain ⟨s4, e4, k4⟩ := cat_ex s3 ⟨#[48]⟩ (oc ++ [b] ++ [32, 32]) [48] e3 rfl (by simp; omega)
                have hb1 : ((b.toNat : Int) == 32) = true := by rw [h32]; rfl
                have hexp := expand_drop_blank l k hk1 (by rw [hbe]; exact h32)
                rw [hbe, hde] at hexp
                have E3 := hide e3; have E4 := hide e4
                by_cases hd1 : 49 ≤ d.toNat
                · have hd1i : (49 : Int) ≤ (d.toNat : Int) := by omega
                  by_cases hd2 : d.toNat ≤ 57
                  · have hd2i : (d.toNat : Int) ≤ 57 := by omega
                    have HR : Hid ((oc ++ [b] ++ [32, 32] ++ [48]) ++ expand (l.drop (k + 1)) = ob ++ [32] ++ expand l) := hide (by rw [← hoc, hexp, if_pos ⟨hd1, hd2⟩]; simp)
                    generalize hbt : b.toNat = bt at *
                    generalize hdt : d.toNat = dt at *
                    clear hb hbe p1 hp1 e2 e3 e4 hexp hoc hd hde h32 hbt hdt
                    go_wp2
                    go_roundw
                    case rel => exact ⟨trivial, k + 1, _, by omega, by go_num, by rw [unhide E4], unhide HR⟩
                    case measure => simp [intOf]; omega
                  · have hd2i : ¬ (d.toNat : Int) ≤ 57 := by omega
                    have HR : Hid ((oc ++ [b] ++ [32, 32]) ++ expand (l.drop (k + 1)) = ob ++ [32] ++ expand l) := hide (by rw [← hoc, hexp, if_neg (by omega)]; simp)
                    generalize hbt : b.toNat = bt at *
                    generalize hdt : d.toNat = dt at *
                    clear hb hbe p1 hp1 e2 e3 e4 hexp hoc hd hde h32 hbt hdt
                    go_wp2
                    go_roundw
                    case rel => exact ⟨trivial, k + 1, _, by omega, by go_num, by rw [unhide E3], unhide HR⟩
                    case measure => simp [intOf]; omega
                · have hd1i : ¬ (49 : Int) ≤ (d.toNat : Int) := by omega
                  have HR : Hid ((oc ++ [b] ++ [32, 32]) ++ expand (l.drop (k + 1)) = ob ++ [32] ++ expand l) := hide (by rw [← hoc, hexp, if_neg (by omega)]; simp)
                  generalize hbt : b.toNat = bt at *
                  generalize hdt : d.toNat = dt at *
                  clear hb hbe p1 hp1 e2 e3 e4 hexp hoc hd hde h32 hbt hdt
                  go_wp2
                  go_roundw
                  case rel => exact ⟨trivial, k + 1, _, by omega, by go_num, by rw [unhide E3], unhide HR⟩
                  case measure => simp [intOf]; omega
              · have hb1 : ((b.toNat : Int) == 32) = false := by
                  rw [beq_eq_false_iff_ne]
                  intro e
                  exact h32 (UInt8.toNat_inj.1 (by show b.toNat = 32; omega))
                have HR : Hid ((oc ++ [b]) ++ expand (l.drop (k + 1)) = ob ++ [32] ++ expand l) := hide (by rw [← hoc, expand_drop_one l k hkl (by rw [hbe]; exact h32), hbe]; simp)
                have E2 := hide e2
                generalize hbt : b.toNat = bt at *
                clear hb hbe p1 hp1 e2 hoc h32 hbt
                go_wp2
                go_roundw
                case rel => exact ⟨trivial, k + 1, _, by omega, by go_num, by rw [unhide E2], unhide HR⟩
                case measure => simp [intOf]; omega
            · have hkn : ¬ (k : Int) < (l.length : Int) := by omega
              obtain ⟨s2, e2, k2⟩ := cat_ex ⟨oc.toArray⟩ ⟨#[32, 10, 32, 32, 10]⟩ oc [32, 10, 32, 32, 10] rfl rfl (by simp; omega)
              have hdr : l.drop k = [] := List.drop_eq_nil_of_le (by omega)
              have HOC : Hid ((oc ++ [32, 10, 32, 32, 10]) ++ trn pre' = [35, 32, 10] ++ trn ls) := hide (by
                rw [hdr] at hoc
                simp only [expand, List.append_nil] at hoc
                rw [← unhide HOB, trn_snoc, hoc]
                simp [turnL])
              have E2 := hide e2
              clear e2 hoc hdr
              go_wp2
              go_roundw
              case rel => exact ⟨trivial, pre', l :: post, _, by rw [unhide HLS]; simp, by rw [unhide HNE], by rw [unhide E2], unhide HOC, unhide HSE⟩
              case measure => simp [intOf]
        · have hn0 : (0 : Int) < (n : Int) := by omega
          have hfb : (flat ls)[n - 1]? = some 10 := by
            have h3 := flat_prev pre' ([l] ++ post) (n - 1) (by have := unhide HNE; omega)
            rw [← List.append_assoc, ← unhide HLS] at h3
            exact h3
          have hix := idx_ex S (flat ls) (unhide HS) ((n : Int) - 1) (n - 1) 10 (by omega) hfb
          clear hz0 hfb
          go_wp2_with fail
          obtain ⟨wo, rfl⟩ : ∃ wo : World, wo = wr := ⟨_, rfl⟩
          go_loopw [3, 7] (fun vo vk wr => wr = wo ∧ ∃ (k : Nat) (oc : List UInt8), k ≤ l.length ∧ vk = .int .i64 k ∧ vo = .string ⟨oc.toArray⟩ ∧ oc ++ expand (l.drop k) = ob ++ [32] ++ expand l) (fun _ vk _ => l.length - (intOf vk).toNat)
          case atStart => exact ⟨rfl, 0, ob ++ [32], Nat.zero_le _, rfl, by rw [unhide E1], by simp⟩
          case round =>
            obtain ⟨rfl, k, oc, hk, rfl, rfl, hoc⟩ := hrel
            have hocl : oc.length ≤ 2000000 := by
              have h1 := congrArg List.length hoc
              have h3 := (unhide HEL).2.2
              rw [List.length_append] at h1
              omega
            by_cases hkl : k < l.length
            · have hki : (k : Int) < (l.length : Int) := by omega
              obtain ⟨b, hb⟩ : ∃ b, l[k]? = some b := ⟨_, List.getElem?_eq_getElem hkl⟩
              have hbe : l[k] = b := by rw [List.getElem?_eq_getElem hkl] at hb; exact Option.some.inj hb
              obtain ⟨P1, p1, q1⟩ := slc_ex L l (unhide HL) (k : Int) ((k : Int) + 1) k (k + 1) rfl (by omega) (by omega) (by omega)
              have hp1 : P1 = ⟨[b].toArray⟩ := by
                rw [p1, List.drop_eq_getElem_cons hkl, hbe]
                have : k + 1 - k = 1 := by omega
                rw [this]; simp
              obtain ⟨s2, e2, k2⟩ := cat_ex ⟨oc.toArray⟩ P1 oc [b] rfl hp1 (by simp; omega)
              have hib := idx_ex L l (unhide HL) (k : Int) k b rfl hb
              by_cases h32 : b = 32
              · have hk1 : k + 1 < l.length := by
                  by_cases h : k + 1 < l.length
                  · exact h
                  · exfalso
                    have hl := (unhide HLO).last
                    rw [List.getLast?_eq_getElem?] at hl
                    have e : l.length - 1 = k := by omega
                    rw [e, hb, h32] at hl
                    exact hl rfl
                obtain ⟨d, hd⟩ : ∃ d, l[k + 1]? = some d := ⟨_, List.getElem?_eq_getElem hk1⟩
                have hde : l[k + 1] = d := by rw [List.getElem?_eq_getElem hk1] at hd; exact Option.some.inj hd
                have hid := idx_ex L l (unhide HL) ((k : Int) + 1) (k + 1) d (by omega) hd
                obtain ⟨s3, e3, k3⟩ := cat_ex s2 ⟨#[32, 32]⟩ (oc ++ [b]) [32, 32] e2 rfl (by simp; omega)
                obtain ⟨s4, e4, k4⟩ := cat_ex s3 ⟨#[48]⟩ (oc ++ [b] ++ [32, 32]) [48] e3 rfl (by simp; omega)
                have hb1 : ((b.toNat : Int) == 32) = true := by rw [h32]; rfl
                have hexp := expand_drop_blank l k hk1 (by rw [hbe]; exact h32)
                rw [hbe, hde] at hexp
                have E3 := hide e3; have E4 := hide e4
                by_cases hd1 : 49 ≤ d.toNat
                · have hd1i : (49 : Int) ≤ (d.toNat : Int) := by omega
                  by_cases hd2 : d.toNat ≤ 57
                  · have hd2i : (d.toNat : Int) ≤ 57 := by omega
                    have HR : Hid ((oc ++ [b] ++ [32, 32] ++ [48]) ++ expand (l.drop (k + 1)) = ob ++ [32] ++ expand l) := hide (by rw [← hoc, hexp, if_pos ⟨hd1, hd2⟩]; simp)
                    generalize hbt : b.toNat = bt at *
                    generalize hdt : d.toNat = dt at *
                    clear hb hbe p1 hp1 e2 e3 e4 hexp hoc hd hde h32 hbt hdt
                    go_wp2
                    go_roundw
                    case rel => exact ⟨trivial, k + 1, _, by omega, by go_num, by rw [unhide E4], unhide HR⟩
                    case measure => simp [intOf]; omega
                  · have hd2i : ¬ (d.toNat : Int) ≤ 57 := by omega
                    have HR : Hid ((oc ++ [b] ++ [32, 32]) ++ expand (l.drop (k + 1)) = ob ++ [32] ++ expand l) := hide (by rw [← hoc, hexp, if_neg (by omega)]; simp)
                    generalize hbt : b.toNat = bt at *
                    generalize hdt : d.toNat = dt at *
                    clear hb hbe p1 hp1 e2 e3 e4 hexp hoc hd hde h32 hbt hdt
                    go_wp2
                    go_roundw
                    case rel => exact ⟨trivial, k + 1, _, by omega, by go_num, by rw [unhide E3], unhide HR⟩
                    case measure => simp [intOf]; omega
                · have hd1i : ¬ (49 : Int) ≤ (d.toNat : Int) := by omega
                  have HR : Hid ((oc ++ [b] ++ [32, 32]) ++ expand (l.drop (k + 1)) = ob ++ [32] ++ expand l) := hide (by rw [← hoc, hexp, if_neg (by omega)]; simp)
                  generalize hbt : b.toNat = bt at *
                  generalize hdt : d.toNat = dt at *
                  clear hb hbe p1 hp1 e2 e3 e4 hexp hoc hd hde h32 hbt hdt
                  go_wp2
                  go_roundw
                  case rel => exact ⟨trivial, k + 1, _, by omega, by go_num, by rw [unhide E3], unhide HR⟩
                  case measure => simp [intOf]; omega
              · have hb1 : ((b.toNat : Int) == 32) = false := by
                  rw [beq_eq_false_iff_ne]
                  intro e
                  exact h32 (UInt8.toNat_inj.1 (by show b.toNat = 32; omega))
                have HR : Hid ((oc ++ [b]) ++ expand (l.drop (k + 1)) = ob ++ [32] ++ expand l) := hide (by rw [← hoc, expand_drop_one l k hkl (by rw [hbe]; exact h32), hbe]; simp)
                have E2 := hide e2
                generalize hbt : b.toNat = bt at *
                clear hb hbe p1 hp1 e2 hoc h32 hbt
                go_wp2
                go_roundw
                case rel => exact ⟨trivial, k + 1, _, by omega, by go_num, by rw [unhide E2], unhide HR⟩
                case measure => simp [intOf]; omega
            · have hkn : ¬ (k : Int) < (l.length : Int) := by omega
              obtain ⟨s2, e2, k2⟩ := cat_ex ⟨oc.toArray⟩ ⟨#[32, 10, 32, 32, 10]⟩ oc [32, 10, 32, 32, 10] rfl rfl (by simp; omega)
              have hdr : l.drop k = [] := List.drop_eq_nil_of_le (by omega)
              have HOC : Hid ((oc ++ [32, 10, 32, 32, 10]) ++ trn pre' = [35, 32, 10] ++ trn ls) := hide (by
                rw [hdr] at hoc
                simp only [expand, List.append_nil] at hoc
                rw [← unhide HOB, trn_snoc, hoc]
                simp [turnL])
              have E2 := hide e2
              clear e2 hoc hdr
              go_wp2
              go_roundw
              case rel => exact ⟨trivial, pre', l :: post, _, by rw [unhide HLS]; simp, by rw [unhide HNE], by rw [unhide E2], unhide HOC, unhide HSE⟩
              case measure => simp [intOf]

end Go.Proofs.YthmhfilkgggagaaGreatDoor
