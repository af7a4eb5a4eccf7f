/-
  The document's answer: Read.
  The document's answer: New and Reload.
  Plain facts for the document's Limits: the least line behind the last one.
-/
import Derived.Test.YthmhfilkgggagaaGreatDoorRfA
import Derived.Deep.QuietTactic
import Derived.BigQuiet
import Derived.Test.YthmhfilkgggagaaGreatDoorPaA
namespace Go.Proofs.YthmhfilkgggagaaGreatDoor
open Go.RowKit Go.Maps Go.Sort

def pairs (l : List Sl.Saying) : List (Sl.Subj × Sl.Lim) := l.map fun a => (a.about, a.lim)
def atsV (l : List Sl.Saying) : List Value := l.map fun a => .int .i64 a.at_

/-- What Read answers. -/
def ReadP (t : List UInt8) (w : World) (e : Ending) (w' : World) : Prop := Below w.heap.size w w' ∧ ∃ v, e = .returned (.tuple #[v, .int .i64 (readS t).2.1, .int .i64 (readS t).2.2]) ∧
  (((readS t).1 = none ∧ v = .slice none 0 0) ∨ ∃ l, (readS t).1 = some l ∧ w'.ownsRow w.heap.size 178 6 v l.length (saidAll l))

theorem info_said : (Tryz.prog.info? 178).map (fun i => (i.zero, i.size, i.bytes)) = some (some (.agg #[.int .i64 0, .int .i64 0, .string ⟨#[]⟩, .string ⟨#[]⟩, .int .i64 0, .int .i64 0]), 6, 64) := by kernel_rfl
theorem info_int : (Tryz.prog.info? 3).map (fun i => (i.zero, i.size, i.bytes)) = some (some (.int .i64 0), 1, 8) := by kernel_rfl

theorem refRead_long (t : List UInt8) (w : World) (ht : 2000 < t.length) : Calls Tryz.prog 91 #[.string ⟨t.toArray⟩] w (ReadP t w) := by
  have hz := size_arr t
  obtain ⟨S, hS⟩ : ∃ S : ByteArray, S = ⟨t.toArray⟩ := ⟨_, rfl⟩
  rw [← hS] at hz ⊢
  have e : readS t = (none, 6, 0) := by unfold readS; rw [if_pos ht]
  have HE := hide e
  have q : (2000 : Int) < (S.size : Int) := by omega
  clear hS e ht
  go_enter Tryz.func91, Tryz.ntmps91
  go_wp2
  go_ret3
  refine ⟨Below.refl _ _, _, ?_, .inl ⟨by rw [unhide HE], rfl⟩⟩
  rw [unhide HE]; rfl

theorem read_dup (t : List UInt8) (h : (Sl.scan 0 (Sl.lines t) []).2 = 0) (hg : (gatherS (Sl.scan 0 (Sl.lines t) []).1 []).2 ≠ 0) (ht : t.length ≤ 2000) : readS t = (none, 2, (gatherS (Sl.scan 0 (Sl.lines t) []).1 []).2) := by
  unfold readS
  rw [if_neg (by omega), if_neg (by rw [h]; simp), if_pos hg]

theorem read_miss (t : List UInt8) (h : (Sl.scan 0 (Sl.lines t) []).2 = 0) (hg : (gatherS (Sl.scan 0 (Sl.lines t) []).1 []).2 = 0) (hd : defaultsB (gatherS (Sl.scan 0 (Sl.lines t) []).1 []).1 = false) (ht : t.length ≤ 2000) : readS t = (none, 3, 0) := by
  unfold readS
  rw [if_neg (by omega), if_neg (by rw [h]; simp), if_neg (by rw [hg]; simp), if_neg (by rw [hd]; simp)]

theorem read_good (t : List UInt8) (h : (Sl.scan 0 (Sl.lines t) []).2 = 0) (hg : (gatherS (Sl.scan 0 (Sl.lines t) []).1 []).2 = 0) (hd : defaultsB (gatherS (Sl.scan 0 (Sl.lines t) []).1 []).1 = true) (ht : t.length ≤ 2000) : readS t = (some (gatherS (Sl.scan 0 (Sl.lines t) []).1 []).1, 0, 0) := by
  unfold readS
  rw [if_neg (by omega), if_neg (by rw [h]; simp), if_neg (by rw [hg]; simp), if_pos hd]

theorem find_append (s : Sl.Subj) : ∀ (l r : List (Sl.Subj × Sl.Lim)) (k : Nat), findFrom s (l ++ r) k = if (look l s).isSome = true then findFrom s l k else findFrom s r (k + l.length)
  | [], r, k => by simp [look]
  | x :: l, r, k => by
    by_cases h : Sl.sameS x.1 s = true
    · have e : (look (x :: l) s).isSome = true := by simp [look, h]
      rw [if_pos e]
      show findFrom s (x :: (l ++ r)) k = _
      unfold findFrom
      rw [if_pos h, if_pos h]
    · have e : look (x :: l) s = look l s := by simp [look, h]
      rw [e]
      show findFrom s (x :: (l ++ r)) k = _
      conv => lhs; unfold findFrom
      rw [if_neg h, find_append s l r (k + 1)]
      conv => rhs; unfold findFrom
      rw [if_neg h]
      have e2 : k + 1 + l.length = k + (x :: l).length := by simp; omega
      rw [e2]
      split
      · rfl
      · cases r <;> rfl

theorem find_dup (E : List (Sl.Subj × Sl.Lim)) (j : Nat) (hj : j < E.length) : (∃ i : Nat, i < j ∧ findFrom E[j].1 E 0 = i ∧ (look (E.take j) E[j].1).isSome = true) ∨ (findFrom E[j].1 E 0 = j ∧ look (E.take j) E[j].1 = none) := by
  have e : E = E.take j ++ E.drop j := (List.take_append_drop j E).symm
  have hd : E.drop j = E[j] :: E.drop (j + 1) := List.drop_eq_getElem_cons hj
  have hf : findFrom E[j].1 E 0 = if (look (E.take j) E[j].1).isSome = true then findFrom E[j].1 (E.take j) 0 else findFrom E[j].1 (E.drop j) (0 + (E.take j).length) := by
    have := find_append E[j].1 (E.take j) (E.drop j) 0
    rw [← e] at this
    exact this
  rcases find_spec E[j].1 (E.take j) 0 with ⟨h1, h2⟩ | ⟨i, hi, h1, h2⟩
  · right
    refine ⟨?_, h2⟩
    rw [hf, h2, if_neg (by simp), hd]
    unfold findFrom
    rw [if_pos ((Sl.sameS_iff _ _).2 rfl)]
    simp
    omega
  · left
    refine ⟨i, by simp at hi; omega, ?_, by rw [h2]; rfl⟩
    rw [hf, h2, if_pos (by simp), h1]; simp

theorem read_line (t : List UInt8) (h : (Sl.scan 0 (Sl.lines t) []).2 ≠ 0) (ht : t.length ≤ 2000) : readS t = (none, 1, (Sl.scan 0 (Sl.lines t) []).2) := by
  unfold readS
  rw [if_neg (by omega), if_pos h]

set_option maxRecDepth 100000 in
set_option maxHeartbeats 8000000 in
theorem refRead_short (t : List UInt8) (w : World) (ht : t.length ≤ 2000) : Calls Tryz.prog 91 #[.string ⟨t.toArray⟩] w (ReadP t w) := by
  obtain ⟨i6, hi6, hz60, hz61, hz62⟩ := info_parts info_said
  obtain ⟨i1, hi1, hz10, hz11, hz12⟩ := info_parts info_int
  have hz := size_arr t
  obtain ⟨S, hS⟩ : ∃ S : ByteArray, S = ⟨t.toArray⟩ := ⟨_, rfl⟩
  rw [← hS] at hz ⊢
  have HS := hide hS
  obtain ⟨R, hR⟩ : ∃ R, R = Sl.scan 0 (Sl.lines t) [] := ⟨_, rfl⟩
  have HRD := hide hR
  have q : ¬ (2000 : Int) < (S.size : Int) := by omega
  clear hS hR
  go_enter Tryz.func91, Tryz.ntmps91
  go_wp2_with fail
  go_loopw [5, 6, 7, 8, 9] (fun v5 v6 v7 v8 v9 wr => ∃ (fr k ln : Nat) (acc : List Sl.Saying), v8 = .int .i64 fr ∧ v9 = .int .i64 k ∧ v7 = .int .i64 ln ∧ fr ≤ k ∧ acc.length ≤ ln ∧ ln ≤ k ∧ wr.ownsRow w.heap.size 178 6 v5 acc.length (saidAll (pairs acc)) ∧ wr.ownsRow w.heap.size 3 1 v6 acc.length (atsV acc) ∧ Below w.heap.size w wr ∧ Todo t fr k ln acc R) (fun _ _ _ _ v9 _ => t.length + 1 - (intOf v9).toNat)
  case atStart => exact ⟨0, 0, 0, [], rfl, rfl, rfl, Nat.le_refl _, Nat.le_refl _, Nat.le_refl _, World.ownsRow_nil _ _ _ _, World.ownsRow_nil _ _ _ _, Below.refl _ _, by rw [unhide HRD]; exact todo_start t⟩
  case round =>
    obtain ⟨fr, k, ln, acc, rfl, rfl, rfl, hfk, hal, hlk, hown5, hown6, hbw, htodo⟩ := hrel
    by_cases hk : k ≤ t.length
    · have hki : (k : Int) ≤ (S.size : Int) := by omega
      by_cases hlt : k < t.length
      · have hklt : (k : Int) < (S.size : Int) := by omega
        obtain ⟨x, hx⟩ : ∃ x, t[k]? = some x := ⟨_, List.getElem?_eq_getElem hlt⟩
        by_cases h10 : x = 10
        · subst h10
          have hx10 := hx
          have hix : ∀ w, (Instr.index 9 (.string S) (.int .i64 k)).run Tryz.prog w = .ok (.int .u8 10) w := idx_ex S t (unhide HS) (k : Int) k 10 rfl hx
          obtain ⟨L, hL, kL⟩ := slc_ex S t (unhide HS) (fr : Int) (k : Int) fr k rfl rfl hfk hk
          have HL := hide (show L = ⟨(cutB t fr k).toArray⟩ from hL)
          have hcl : (cutB t fr k).length ≤ 2000 := by rw [cutB_len t fr k hk]; omega
          obtain ⟨tn, tb, ts⟩ := todo_line htodo hk (fun _ => hx10)
          have TN := hide tn; have TB := hide tb; have TS := hide ts
          have hflen : (Sl.fields (cutB t fr k)).length ≤ 2000 := by have := fgo_len2 (cutB t fr k) []; unfold Sl.fields; simp at this; omega
          have hfw : ∀ x ∈ Sl.fields (cutB t fr k), x.length ≤ 2000 ∧ x ≠ [] := fun x hx => ⟨by have := Sl.fgo_mem _ _ _ hx; simp at this; omega, Sl.fgo_ne _ _ _ hx⟩
          have HFL := hide hflen; have HFW := hide hfw
          have hword := hide (fun W => refWords_arr L (cutB t fr k) hL W hcl)
          clear htodo tn tb ts hL hflen hfw hcl
          go_wp2_with fail
          refine (unhide hword _).mono ?_
          rintro e w1 ⟨vw, rfl, hwown, hb1⟩
          have ho5 := own_below hown5 hb1
          have ho6 := own_below hown6 hb1
          have hbw1 := hbw.trans (hb1.mono hbw.size)
          generalize hF : Sl.fields (cutB t fr k) = F at *
          clear hword hown5 hown6 hbw hF
          have hw1 := hbw1.size
          cases F with
          | nil =>
            have TT := hide (unhide TN rfl)
            obtain ⟨aw, cw, hvw⟩ : ∃ a c, vw = .slice a 0 c := by
              rcases own_shape hwown with ⟨h, _⟩ | ⟨g, cap, h, _⟩
              · exact ⟨_, _, h⟩
              · exact ⟨_, _, h⟩
            subst hvw
            clear TN TB TS hwown
            go_wp2
            go_roundw
            case rel => exact ⟨k + 1, k + 1, ln + 1, acc, by go_num, by go_num, by go_num, Nat.le_refl _, by omega, by omega, ho5, ho6, hbw1, unhide TT⟩
            case measure => simp [intOf]; omega
          | cons f0 fr' =>
            obtain ⟨g, cap, hvw, hgc, hgz, hgcell⟩ : ∃ g cap, vw = .slice (some ⟨g, 0, none⟩) (f0 :: fr').length cap ∧ (f0 :: fr').length ≤ cap ∧ g < w1.heap.size ∧ ∀ j u, (strV (f0 :: fr'))[j]? = some u → w1.cell? ⟨g, j, none⟩ = some u := by
              rcases own_shape hwown with ⟨_, h⟩ | h
              · simp at h
              · exact h
            obtain ⟨b, hb⟩ : ∃ b, f0[0]? = some b := by
              have := (unhide HFW f0 (by simp)).2
              cases f0 with
              | nil => exact absurd rfl this
              | cons b r => exact ⟨b, rfl⟩
            have hpre := prefix_head hb
            obtain ⟨X0, hX0⟩ : ∃ X : ByteArray, X = ⟨f0.toArray⟩ := ⟨_, rfl⟩
            have hc0 : w1.cell? ⟨g, 0, none⟩ = some (.string X0) := hgcell 0 _ (by rw [hX0]; rfl)
            have hi0 := idx_ex X0 f0 hX0 0 0 b rfl hb
            have hX0z : X0.size = f0.length := by rw [hX0]; exact size_arr f0
            have hX0p : (0 : Int) < (X0.size : Int) := by
              rw [hX0z]
              have := (List.getElem?_eq_some_iff.1 hb).1
              omega
            have hnf : 0 < (f0 :: fr').length := by simp
            have hlw : (((f0 :: fr').length : Int) == 0) = false := by rw [beq_eq_false_iff_ne]; simp; omega
            subst hvw
            have HGC := hide hgcell
            clear hgcell hX0 hwown hX0z
            by_cases h35 : b = 35
            · have TT := hide (unhide TN (by show Lib.hasPrefix f0 [35] = true; rw [hpre]; simp [h35]))
              have hb35 : ((b.toNat : Int) == 35) = true := by rw [h35]; rfl
              generalize hbt : b.toNat = bt at *
              generalize hfl : (f0 :: fr').length = nf at *
              clear TN TB TS hb hpre h35 hbt hfl
              go_wp2
              go_roundw
              case rel => exact ⟨k + 1, k + 1, ln + 1, acc, by go_num, by go_num, by go_num, Nat.le_refl _, by omega, by omega, ho5, ho6, hbw1, unhide TT⟩
              case measure => simp [intOf]; omega
            · have hb35 : ((b.toNat : Int) == 35) = false := by
                rw [beq_eq_false_iff_ne]
                intro e
                exact h35 (UInt8.toNat_inj.1 (by show b.toNat = 35; omega))
              have hnn : ¬ Sl.nothing (f0 :: fr') = true := by show ¬ Lib.hasPrefix f0 [35] = true; rw [hpre]; simp [h35]
              have TB2 := hide (unhide TB hnn); have TS2 := hide (unhide TS hnn)
              have hsaid := hide (refSaid_any (f0 :: fr') g cap w1 hgz hgc (unhide HFL) (fun x hx => (unhide HFW x hx).1) (fun i hi => unhide HGC i _ (by simp only [strV, List.getElem?_map, List.getElem?_eq_getElem hi, Option.map_some])))
              generalize hbt : b.toNat = bt at *
              generalize hln : Sl.line (f0 :: fr') = li at *
              generalize hfl : (f0 :: fr').length = nf at *
              clear TN TB TS hb hpre h35 hbt hnn hln hfl HGC
              go_wp2_with fail
              refine (unhide hsaid).mono ?_
              rintro e w2 ⟨hb2, a0, a1, s2, s3, a4, a5, rfl, hli⟩
              have ho5b := own_below ho5 hb2
              have ho6b := own_below ho6 hb2
              have hbw2 := hbw1.trans (hb2.mono hw1)
              have hw2 := hbw2.size
              clear hsaid ho5 ho6 hbw1 hc0 hi0 hgz hb1 hb2
              cases li with
              | none =>
                have HR := hide (unhide TB2 rfl)
                clear TB2 TS2 hli
                simp only [Option.isSome_none]
                go_wp2
                go_ret3
                have HE := read_line t (by rw [← unhide HRD, unhide HR]; simp) ht
                rw [← unhide HRD, unhide HR] at HE
                refine ⟨hbw2.alloc hw2 _, _, ?_, .inl ⟨by rw [HE], rfl⟩⟩
                rw [HE]; go_num
              | some sm =>
                obtain ⟨sb, lm⟩ := sm
                have TT := hide (unhide TS2 sb lm rfl)
                obtain ⟨rfl, rfl, rfl, rfl, rfl, rfl⟩ := hli sb lm rfl
                clear TB2 TS2 hli
                simp only [Option.isSome_some]
                go_wp2_with (first
                  | (at_builtin; refine wpList_append_own _ rfl (.tmp 61) (.tmp 63) 137 rfl w.heap.size 178 i6 (.agg #[.int .i64 0, .int .i64 0, .string ⟨#[]⟩, .string ⟨#[]⟩, .int .i64 0, .int .i64 0]) 6 64 Tryz.underlying137 hi6 hz60 hz61 hz62 rfl (by decide) _ _ _ rfl ((ho5b.alloc _).alloc _) ⟨w2.heap.size + 1, 0, none⟩ 1 1 (saidC sb lm) rfl rfl (cell_new_at _ _ _ _ (by simp)) (by intro u hu; simp [saidC] at hu; rcases hu with rfl | rfl | rfl | rfl | rfl | rfl <;> rfl) (by unfold maxLen; omega) (by omega) (by simp; omega) ?_; intro v5' w3 hown5' hgrow5 hnil5)
                  | (at_builtin; refine wpList_append_own _ rfl (.tmp 65) (.tmp 67) 25 rfl w.heap.size 3 i1 (.int .i64 0) 1 8 Tryz.underlying25 hi1 hz10 hz11 hz12 rfl (by decide) _ _ _ rfl (((((ho6b.alloc _).alloc _).kept hgrow5 (own_apart ho6b ho5b (by decide)))).alloc _) ⟨w3.heap.size, 0, none⟩ 1 1 [.int .i64 (ln + 1)] rfl rfl (cell_new_at _ _ _ _ (by simp)) (by intro u hu; simp at hu; subst hu; rfl) (by unfold maxLen; omega) (by omega) (by have := hgrow5.size; simp at this ⊢; omega) ?_; intro v6' w4 hown6' hgrow6 hnil6))
                go_roundw
                case rel =>
                  have hs5 := hgrow5.size
                  have hs6 := hgrow6.size
                  have k6 := ((ho6b.alloc _).alloc _).kept hgrow5 (own_apart ho6b ho5b (by decide))
                  refine ⟨k + 1, k + 1, ln + 1, acc ++ [⟨ln + 1, sb, lm⟩], by go_num, by go_num, by go_num, Nat.le_refl _, by simp; omega, by omega, ?_, ?_, ?_, unhide TT⟩
                  · have e : saidAll (pairs (acc ++ [⟨ln + 1, sb, lm⟩])) = saidAll (pairs acc) ++ saidC sb lm := by simp [pairs, saidAll]
                    rw [e, List.length_append]
                    exact (hown5'.alloc _).kept hgrow6 (own_apart hown5' k6 (by decide))
                  · have e : atsV (acc ++ [⟨ln + 1, sb, lm⟩]) = atsV acc ++ [.int .i64 ((ln : Int) + 1)] := by simp [atsV]
                    rw [e, List.length_append]
                    exact hown6'
                  · simp at hs5
                    exact (((((hbw2.alloc hw2 _).alloc (by simp; omega) _).grown hgrow5 (by simp; omega) (own_base ho5b)).alloc (by omega) _).grown hgrow6 (by simp; omega) (own_base ho6b))
                case measure => simp [intOf]; omega
        · have hix := idx_ex S t (unhide HS) (k : Int) k x rfl hx
          have hb10 : ((x.toNat : Int) == 10) = false := by
            rw [beq_eq_false_iff_ne]
            intro e
            exact h10 (UInt8.toNat_inj.1 (by show x.toNat = 10; omega))
          have TT := hide (todo_byte htodo hfk hx h10)
          generalize hxt : x.toNat = xt at *
          clear htodo hx h10 hxt
          go_wp2
          go_roundw
          case rel => exact ⟨fr, k + 1, ln, acc, rfl, by go_num, rfl, by omega, hal, by omega, hown5, hown6, hbw, unhide TT⟩
          case measure => simp [intOf]; omega
      · have hklt : ¬ (k : Int) < (S.size : Int) := by omega
        obtain ⟨L, hL, kL⟩ := slc_ex S t (unhide HS) (fr : Int) (k : Int) fr k rfl rfl hfk hk
        have HL := hide (show L = ⟨(cutB t fr k).toArray⟩ from hL)
        have hcl : (cutB t fr k).length ≤ 2000 := by rw [cutB_len t fr k hk]; omega
        obtain ⟨tn, tb, ts⟩ := todo_line htodo hk (fun h => absurd h (by omega))
        have TN := hide tn; have TB := hide tb; have TS := hide ts
        have hflen : (Sl.fields (cutB t fr k)).length ≤ 2000 := by have := fgo_len2 (cutB t fr k) []; unfold Sl.fields; simp at this; omega
        have hfw : ∀ x ∈ Sl.fields (cutB t fr k), x.length ≤ 2000 ∧ x ≠ [] := fun x hx => ⟨by have := Sl.fgo_mem _ _ _ hx; simp at this; omega, Sl.fgo_ne _ _ _ hx⟩
        have HFL := hide hflen; have HFW := hide hfw
        have hword := hide (fun W => refWords_arr L (cutB t fr k) hL W hcl)
        clear htodo tn tb ts hL hflen hfw hcl
        go_wp2_with fail
        refine (unhide hword _).mono ?_
        rintro e w1 ⟨vw, rfl, hwown, hb1⟩
        have ho5 := own_below hown5 hb1
        have ho6 := own_below hown6 hb1
        have hbw1 := hbw.trans (hb1.mono hbw.size)
        generalize hF : Sl.fields (cutB t fr k) = F at *
        clear hword hown5 hown6 hbw hF
        have hw1 := hbw1.size
        cases F with
        | nil =>
          have TT := hide (unhide TN rfl)
          obtain ⟨aw, cw, hvw⟩ : ∃ a c, vw = .slice a 0 c := by
            rcases own_shape hwown with ⟨h, _⟩ | ⟨g, cap, h, _⟩
            · exact ⟨_, _, h⟩
            · exact ⟨_, _, h⟩
          subst hvw
          clear TN TB TS hwown
          go_wp2
          go_roundw
          case rel => exact ⟨k + 1, k + 1, ln + 1, acc, by go_num, by go_num, by go_num, Nat.le_refl _, by omega, by omega, ho5, ho6, hbw1, unhide TT⟩
          case measure => simp [intOf]; omega
        | cons f0 fr' =>
          obtain ⟨g, cap, hvw, hgc, hgz, hgcell⟩ : ∃ g cap, vw = .slice (some ⟨g, 0, none⟩) (f0 :: fr').length cap ∧ (f0 :: fr').length ≤ cap ∧ g < w1.heap.size ∧ ∀ j u, (strV (f0 :: fr'))[j]? = some u → w1.cell? ⟨g, j, none⟩ = some u := by
            rcases own_shape hwown with ⟨_, h⟩ | h
            · simp at h
            · exact h
          obtain ⟨b, hb⟩ : ∃ b, f0[0]? = some b := by
            have := (unhide HFW f0 (by simp)).2
            cases f0 with
            | nil => exact absurd rfl this
            | cons b r => exact ⟨b, rfl⟩
          have hpre := prefix_head hb
          obtain ⟨X0, hX0⟩ : ∃ X : ByteArray, X = ⟨f0.toArray⟩ := ⟨_, rfl⟩
          have hc0 : w1.cell? ⟨g, 0, none⟩ = some (.string X0) := hgcell 0 _ (by rw [hX0]; rfl)
          have hi0 := idx_ex X0 f0 hX0 0 0 b rfl hb
          have hX0z : X0.size = f0.length := by rw [hX0]; exact size_arr f0
          have hX0p : (0 : Int) < (X0.size : Int) := by
            rw [hX0z]
            have := (List.getElem?_eq_some_iff.1 hb).1
            omega
          have hnf : 0 < (f0 :: fr').length := by simp
          have hlw : (((f0 :: fr').length : Int) == 0) = false := by rw [beq_eq_false_iff_ne]; simp; omega
          subst hvw
          have HGC := hide hgcell
          clear hgcell hX0 hwown hX0z
          by_cases h35 : b = 35
          · have TT := hide (unhide TN (by show Lib.hasPrefix f0 [35] = true; rw [hpre]; simp [h35]))
            have hb35 : ((b.toNat : Int) == 35) = true := by rw [h35]; rfl
            generalize hbt : b.toNat = bt at *
            generalize hfl : (f0 :: fr').length = nf at *
            clear TN TB TS hb hpre h35 hbt hfl
            go_wp2
            go_roundw
            case rel => exact ⟨k + 1, k + 1, ln + 1, acc, by go_num, by go_num, by go_num, Nat.le_refl _, by omega, by omega, ho5, ho6, hbw1, unhide TT⟩
            case measure => simp [intOf]; omega
          · have hb35 : ((b.toNat : Int) == 35) = false := by
              rw [beq_eq_false_iff_ne]
              intro e
              exact h35 (UInt8.toNat_inj.1 (by show b.toNat = 35; omega))
            have hnn : ¬ Sl.nothing (f0 :: fr') = true := by show ¬ Lib.hasPrefix f0 [35] = true; rw [hpre]; simp [h35]
            have TB2 := hide (unhide TB hnn); have TS2 := hide (unhide TS hnn)
            have hsaid := hide (refSaid_any (f0 :: fr') g cap w1 hgz hgc (unhide HFL) (fun x hx => (unhide HFW x hx).1) (fun i hi => unhide HGC i _ (by simp only [strV, List.getElem?_map, List.getElem?_eq_getElem hi, Option.map_some])))
            generalize hbt : b.toNat = bt at *
            generalize hln : Sl.line (f0 :: fr') = li at *
            generalize hfl : (f0 :: fr').length = nf at *
            clear TN TB TS hb hpre h35 hbt hnn hln hfl HGC
            go_wp2_with fail
            refine (unhide hsaid).mono ?_
            rintro e w2 ⟨hb2, a0, a1, s2, s3, a4, a5, rfl, hli⟩
            have ho5b := own_below ho5 hb2
            have ho6b := own_below ho6 hb2
            have hbw2 := hbw1.trans (hb2.mono hw1)
            have hw2 := hbw2.size
            clear hsaid ho5 ho6 hbw1 hc0 hi0 hgz hb1 hb2
            cases li with
            | none =>
              have HR := hide (unhide TB2 rfl)
              clear TB2 TS2 hli
              simp only [Option.isSome_none]
              go_wp2
              go_ret3
              have HE := read_line t (by rw [← unhide HRD, unhide HR]; simp) ht
              rw [← unhide HRD, unhide HR] at HE
              refine ⟨hbw2.alloc hw2 _, _, ?_, .inl ⟨by rw [HE], rfl⟩⟩
              rw [HE]; go_num
            | some sm =>
              obtain ⟨sb, lm⟩ := sm
              have TT := hide (unhide TS2 sb lm rfl)
              obtain ⟨rfl, rfl, rfl, rfl, rfl, rfl⟩ := hli sb lm rfl
              clear TB2 TS2 hli
              simp only [Option.isSome_some]
              go_wp2_with (first
                | (at_builtin; refine wpList_append_own _ rfl (.tmp 61) (.tmp 63) 137 rfl w.heap.size 178 i6 (.agg #[.int .i64 0, .int .i64 0, .string ⟨#[]⟩, .string ⟨#[]⟩, .int .i64 0, .int .i64 0]) 6 64 Tryz.underlying137 hi6 hz60 hz61 hz62 rfl (by decide) _ _ _ rfl ((ho5b.alloc _).alloc _) ⟨w2.heap.size + 1, 0, none⟩ 1 1 (saidC sb lm) rfl rfl (cell_new_at _ _ _ _ (by simp)) (by intro u hu; simp [saidC] at hu; rcases hu with rfl | rfl | rfl | rfl | rfl | rfl <;> rfl) (by unfold maxLen; omega) (by omega) (by simp; omega) ?_; intro v5' w3 hown5' hgrow5 hnil5)
                | (at_builtin; refine wpList_append_own _ rfl (.tmp 65) (.tmp 67) 25 rfl w.heap.size 3 i1 (.int .i64 0) 1 8 Tryz.underlying25 hi1 hz10 hz11 hz12 rfl (by decide) _ _ _ rfl (((((ho6b.alloc _).alloc _).kept hgrow5 (own_apart ho6b ho5b (by decide)))).alloc _) ⟨w3.heap.size, 0, none⟩ 1 1 [.int .i64 (ln + 1)] rfl rfl (cell_new_at _ _ _ _ (by simp)) (by intro u hu; simp at hu; subst hu; rfl) (by unfold maxLen; omega) (by omega) (by have := hgrow5.size; simp at this ⊢; omega) ?_; intro v6' w4 hown6' hgrow6 hnil6))
              go_roundw
              case rel =>
                have hs5 := hgrow5.size
                have hs6 := hgrow6.size
                have k6 := ((ho6b.alloc _).alloc _).kept hgrow5 (own_apart ho6b ho5b (by decide))
                refine ⟨k + 1, k + 1, ln + 1, acc ++ [⟨ln + 1, sb, lm⟩], by go_num, by go_num, by go_num, Nat.le_refl _, by simp; omega, by omega, ?_, ?_, ?_, unhide TT⟩
                · have e : saidAll (pairs (acc ++ [⟨ln + 1, sb, lm⟩])) = saidAll (pairs acc) ++ saidC sb lm := by simp [pairs, saidAll]
                  rw [e, List.length_append]
                  exact (hown5'.alloc _).kept hgrow6 (own_apart hown5' k6 (by decide))
                · have e : atsV (acc ++ [⟨ln + 1, sb, lm⟩]) = atsV acc ++ [.int .i64 ((ln : Int) + 1)] := by simp [atsV]
                  rw [e, List.length_append]
                  exact hown6'
                · simp at hs5
                  exact (((((hbw2.alloc hw2 _).alloc (by simp; omega) _).grown hgrow5 (by simp; omega) (own_base ho5b)).alloc (by omega) _).grown hgrow6 (by simp; omega) (own_base ho6b))
              case measure => simp [intOf]; omega
    · have hki : ¬ (k : Int) ≤ (S.size : Int) := by omega
      have hR0 := todo_done htodo hk
      have HAC := hide hR0
      obtain ⟨G, hG⟩ : ∃ G, G = gatherS acc [] := ⟨_, rfl⟩
      have HG := hide hG
      have hsc := scan_ok (Sl.lines t) 0 [] (fun x hx => by have := Sl.lgo_mem _ _ _ hx; simp at this; omega) (by simp)
      have hn : acc.length ≤ 2001 := by
        have h2 := hsc.2
        rw [← unhide HRD, hR0] at h2
        have h3 := Sl.lgo_len t []
        unfold Sl.lines at h2
        simp at h2
        omega
      have hok : ∀ a ∈ acc, OkSay a := by
        have h2 := hsc.1
        rw [← unhide HRD, hR0] at h2
        exact h2
      have HOK := hide hok
      clear htodo hR0 hG hok hsc
      go_wp2_with fail
      go_loopw [13] (fun v13 wr2 => ∃ j : Nat, v13 = .int .i64 j ∧ j ≤ acc.length ∧ wr2.ownsRow w.heap.size 178 6 u5 acc.length (saidAll (pairs acc)) ∧ wr2.ownsRow w.heap.size 3 1 u6 acc.length (atsV acc) ∧ Below w.heap.size w wr2 ∧ gatherS (acc.drop j) ((pairs acc).take j) = G) (fun v13 _ => acc.length - (intOf v13).toNat)
      case atStart => exact ⟨0, rfl, Nat.zero_le _, hown5, hown6, hbw, by rw [unhide HG]; rfl⟩
      case round =>
        obtain ⟨j, rfl, hj, ho5, ho6, hbw2, hga⟩ := hrel
        have hpl : (pairs acc).length = acc.length := by simp [pairs]
        clear hown5 hown6 hbw
        by_cases hjl : j < acc.length
        · obtain ⟨g5, cap5, hv5, _, hg5, hc5⟩ : ∃ g cap, u5 = .slice (some ⟨g, 0, none⟩) acc.length cap ∧ acc.length ≤ cap ∧ g < wr.heap.size ∧ ∀ j u, (saidAll (pairs acc))[j]? = some u → wr.cell? ⟨g, j, none⟩ = some u := by
            rcases own_shape ho5 with ⟨_, h⟩ | h
            · omega
            · exact h
          obtain ⟨g6, cap6, hv6, _, hg6, hc6⟩ : ∃ g cap, u6 = .slice (some ⟨g, 0, none⟩) acc.length cap ∧ acc.length ≤ cap ∧ g < wr.heap.size ∧ ∀ j u, (atsV acc)[j]? = some u → wr.cell? ⟨g, j, none⟩ = some u := by
            rcases own_shape ho6 with ⟨_, h⟩ | h
            · omega
            · exact h
          have hrefl : RefL wr u5 (pairs acc) := RefL.own ho5 hpl.symm
          have hpj : (pairs acc)[j]'(by rw [hpl]; exact hjl) = (acc[j].about, acc[j].lim) := by simp [pairs]
          have hcell : ∀ i, i < 6 → ∀ u, (saidC acc[j].about acc[j].lim)[i]? = some u → wr.cell? ⟨g5, j * 6 + i, none⟩ = some u := by
            intro i hi u hu
            refine hc5 _ _ ?_
            rw [saidAll_at (pairs acc) j (by rw [hpl]; exact hjl) i hi, hpj]
            exact hu
          have hat : wr.cell? ⟨g6, j, none⟩ = some (.int .i64 acc[j].at_) := hc6 j _ (by simp [atsV, hjl])
          have hdup := find_dup (pairs acc) j (by rw [hpl]; exact hjl)
          rw [hpj] at hdup
          have hdrop : acc.drop j = acc[j] :: acc.drop (j + 1) := List.drop_eq_getElem_cons hjl
          have htake : (pairs acc).take (j + 1) = (pairs acc).take j ++ [(acc[j].about, acc[j].lim)] := by
            rw [List.take_succ_eq_append_getElem (by rw [hpl]; exact hjl), hpj]
          have hoka := unhide HOK _ (List.getElem_mem hjl)
          rw [hdrop] at hga
          generalize acc[j] = a at *
          have c0 : wr.cell? ⟨g5, j * 6, none⟩ = some (.int .i64 a.about.kind) := hcell 0 (by omega) _ rfl
          have c1 : wr.cell? ⟨g5, j * 6 + 1, none⟩ = some (.int .i64 a.about.cls) := hcell 1 (by omega) _ rfl
          have c2 : wr.cell? ⟨g5, j * 6 + 2, none⟩ = some (.string ⟨a.about.org.toArray⟩) := hcell 2 (by omega) _ rfl
          have c3 : wr.cell? ⟨g5, j * 6 + 3, none⟩ = some (.string ⟨a.about.ten.toArray⟩) := hcell 3 (by omega) _ rfl
          have hfind : ∀ n, Calls Tryz.prog 141 #[u5, .int .i64 a.about.kind, .int .i64 a.about.cls, .string ⟨a.about.org.toArray⟩, .string ⟨a.about.ten.toArray⟩] (wr.drewN n) fun e w' => e = .returned (.int .i64 (findFrom a.about (pairs acc) 0)) ∧ w' = wr.drewN n :=
            fun n => find_any (pairs acc) u5 a.about (wr.drewN n) (hrefl.below (below_drewN wr n)) (by rw [hpl]; exact hn)
          subst hv5
          subst hv6
          have hji : (j : Int) < (acc.length : Int) := by omega
          have HFD := hide hfind
          have HGA := hide hga; have HTK := hide htake; have HOA := hide hoka
          clear hc5 hc6 hcell hfind hga htake hoka hdrop hpj hrefl
          rcases hdup with ⟨i, hij, hf, hlk⟩ | ⟨hf, hlk⟩
          · have HF := hide hf
            have hG2 : Hid (G = ([], a.at_)) := hide (by
              have h := unhide HGA
              unfold gatherS at h
              rw [if_pos hlk] at h
              exact h.symm)
            have hq : (i : Int) < (j : Int) := by omega
            clear hf hlk
            have hfd := unhide HFD
            rw [unhide HF] at hfd
            have HFE := hide hfd
            clear hfd
            go_wp2_with fail
            go_quiet (first | (go_at_call 141; refine Calls.quiet_of_same (unhide HFE _)))
            go_wp2_with fail
            go_quiet (fail)
            go_wp2
            go_ret3
            have HE := read_dup t (by rw [← unhide HRD, unhide HAC]) (by rw [← unhide HRD, unhide HAC, ← unhide HG, unhide hG2]; exact (unhide HOA).2.1) ht
            rw [← unhide HRD, unhide HAC, ← unhide HG, unhide hG2] at HE
            refine ⟨?_, _, ?_, .inl ⟨by rw [HE], rfl⟩⟩
            · first
                | exact hbw2.trans ((below_drewN _ _).mono hbw2.size)
                | exact hbw2.trans (((below_drewN _ _).trans ((below_drewN _ _).mono (below_drewN _ _).size)).mono hbw2.size)
            · rw [HE]; rfl
          · have HF := hide hf
            have hN : Hid (gatherS (acc.drop (j + 1)) ((pairs acc).take (j + 1)) = G) := hide (by
              have h := unhide HGA
              unfold gatherS at h
              rw [if_neg (by rw [hlk]; simp)] at h
              rw [unhide HTK]
              exact h)
            clear hf hlk
            have hfd := unhide HFD
            rw [unhide HF] at hfd
            have HFE := hide hfd
            clear hfd
            go_wp2_with fail
            go_quiet (first | (go_at_call 141; refine Calls.quiet_of_same (unhide HFE _)))
            go_wp2
            go_roundw
            case rel => exact ⟨j + 1, by go_num, by omega, own_below ho5 (below_drewN _ _), own_below ho6 (below_drewN _ _), hbw2.trans ((below_drewN _ _).mono hbw2.size), unhide hN⟩
            case measure => simp [intOf]; omega
        · have hGE : Hid (G = (pairs acc, 0)) := hide (by
            rw [← hga, List.drop_eq_nil_of_le (by omega), List.take_of_length_le (by rw [hpl]; omega)]
            rfl)
          have hjn : ¬ (j : Int) < (acc.length : Int) := by omega
          obtain ⟨a5, n5, e5⟩ : ∃ a c, u5 = .slice a acc.length c := by
            rcases own_shape ho5 with ⟨h, h2⟩ | ⟨g, cap, h, _⟩
            · exact ⟨_, _, by rw [h, h2]⟩
            · exact ⟨_, _, h⟩
          have HV := hide e5
          clear hga
          subst e5
          clear HV
          go_wp2_with fail
          go_loopw [14] (fun v14 wr3 => wr3 = wr ∧ ∃ c : Nat, v14 = .int .i64 c ∧ c ≤ 2 ∧ ∀ k, k < c → dflt (pairs acc) k 0 = true ∧ dflt (pairs acc) k 1 = true) (fun v14 _ => 2 - (intOf v14).toNat)
          case atStart => exact ⟨rfl, 0, rfl, by omega, fun k hk => by omega⟩
          case round =>
            obtain ⟨rfl, c, rfl, hc2, hall⟩ := hrel
            have hrefl := hide (RefL.own ho5 hpl.symm)
            have hpn : (pairs acc).length ≤ 2001 := by omega
            by_cases hcl : c < 2
            · have hci : (c : Int) < 2 := by omega
              have HALL := hide hall
              clear hall
              rcases find_spec ⟨c, 0, [], []⟩ (pairs acc) 0 with ⟨f1, l1⟩ | ⟨i1', hi1', f1, l1⟩
              · have F1 := hide f1
                have hmiss := hide (read_miss t (by rw [← unhide HRD, unhide HAC]) (by rw [← unhide HRD, unhide HAC, ← unhide HG, unhide hGE]) (by
                  rw [← unhide HRD, unhide HAC, ← unhide HG, unhide hGE]
                  exact no_default _ c 0 hcl (by omega) (by unfold dflt; rw [l1]; rfl)) ht)
                clear f1 l1
                go_wp2_with fail
                refine (find_at (pairs acc) _ c 0 ⟨#[]⟩ ⟨#[]⟩ c 0 [] [] rfl rfl rfl rfl _ (unhide hrefl) hpn).mono ?_
                rintro e w9 ⟨rfl, rfl⟩
                rw [unhide F1]
                go_wp2
                go_ret3
                refine ⟨hbw2, _, ?_, .inl ⟨by rw [unhide hmiss], rfl⟩⟩
                rw [unhide hmiss]; rfl
              · have F1 := hide f1
                rcases find_spec ⟨c, 1, [], []⟩ (pairs acc) 0 with ⟨f2, l2⟩ | ⟨i2, hi2, f2, l2⟩
                · have F2 := hide f2
                  have hmiss := hide (read_miss t (by rw [← unhide HRD, unhide HAC]) (by rw [← unhide HRD, unhide HAC, ← unhide HG, unhide hGE]) (by
                    rw [← unhide HRD, unhide HAC, ← unhide HG, unhide hGE]
                    exact no_default _ c 1 hcl (by omega) (by unfold dflt; rw [l2]; rfl)) ht)
                  clear f1 l1 f2 l2
                  go_wp2_with fail
                  refine (find_at (pairs acc) _ c 0 ⟨#[]⟩ ⟨#[]⟩ c 0 [] [] rfl rfl rfl rfl _ (unhide hrefl) hpn).mono ?_
                  rintro e w9 ⟨rfl, rfl⟩
                  rw [unhide F1]
                  go_wp2_with fail
                  refine (find_at (pairs acc) _ c 1 ⟨#[]⟩ ⟨#[]⟩ c 1 [] [] rfl rfl rfl rfl _ (unhide hrefl) hpn).mono ?_
                  rintro e w9 ⟨rfl, rfl⟩
                  rw [unhide F2]
                  go_wp2
                  go_ret3
                  refine ⟨hbw2, _, ?_, .inl ⟨by rw [unhide hmiss], rfl⟩⟩
                  rw [unhide hmiss]; rfl
                · have F2 := hide f2
                  have HNX : Hid (∀ k, k < c + 1 → dflt (pairs acc) k 0 = true ∧ dflt (pairs acc) k 1 = true) := hide (by
                    intro k hk
                    by_cases hkc : k < c
                    · exact unhide HALL k hkc
                    · have : k = c := by omega
                      subst this
                      exact ⟨by unfold dflt; rw [l1]; rfl, by unfold dflt; rw [l2]; rfl⟩)
                  clear f1 l1 f2 l2
                  go_wp2_with fail
                  refine (find_at (pairs acc) _ c 0 ⟨#[]⟩ ⟨#[]⟩ c 0 [] [] rfl rfl rfl rfl _ (unhide hrefl) hpn).mono ?_
                  rintro e w9 ⟨rfl, rfl⟩
                  rw [unhide F1]
                  go_wp2_with fail
                  refine (find_at (pairs acc) _ c 1 ⟨#[]⟩ ⟨#[]⟩ c 1 [] [] rfl rfl rfl rfl _ (unhide hrefl) hpn).mono ?_
                  rintro e w9 ⟨rfl, rfl⟩
                  rw [unhide F2]
                  go_wp2
                  go_roundw
                  case rel => exact ⟨trivial, c + 1, by go_num, by omega, unhide HNX⟩
                  case measure => simp [intOf]; omega
            · have hci : ¬ (c : Int) < 2 := by omega
              have hdef : defaultsB (pairs acc) = true := by
                have h0 := hall 0 (by omega)
                have h1 := hall 1 (by omega)
                unfold defaultsB
                rw [h0.1, h0.2, h1.1, h1.2]; rfl
              have hgood := hide (read_good t (by rw [← unhide HRD, unhide HAC]) (by rw [← unhide HRD, unhide HAC, ← unhide HG, unhide hGE]) (by
                rw [← unhide HRD, unhide HAC, ← unhide HG, unhide hGE]; exact hdef) ht)
              clear hall hdef
              go_wp2
              go_ret3
              have HE := unhide hgood
              rw [← unhide HRD, unhide HAC, ← unhide HG, unhide hGE] at HE
              refine ⟨hbw2, .slice a5 acc.length n5, ?_, .inr ⟨pairs acc, by rw [HE], ?_⟩⟩
              · rw [HE]; rfl
              · rw [hpl]; exact ho5

end Go.Proofs.YthmhfilkgggagaaGreatDoor

namespace Go.Proofs.YthmhfilkgggagaaGreatDoor
open Go.RowKit Go.Maps Go.Sort

theorem refRead_any (t : List UInt8) (w : World) : Calls Tryz.prog 91 #[.string ⟨t.toArray⟩] w (ReadP t w) := by
  by_cases h : 2000 < t.length
  · exact refRead_long t w h
  · exact refRead_short t w (by omega)

theorem gatherS_ok : ∀ (ss : List Sl.Saying) (acc l : List (Sl.Subj × Sl.Lim)), OkL acc → (∀ a ∈ ss, OkS a.about ∧ a.at_ ≠ 0) → gatherS ss acc = (l, 0) → OkL l
  | [], acc, l, h, _, e => by cases e; exact h
  | a :: r, acc, l, h, hs, e => by
    unfold gatherS at e
    split at e
    · exact absurd (congrArg Prod.snd e) (hs a (List.mem_cons_self ..)).2
    · next hn =>
      exact gatherS_ok r _ l (h.more (hs a (List.mem_cons_self ..)).1 (by cases hq : look acc a.about with
        | none => rfl
        | some m => rw [hq] at hn; exact absurd rfl hn)) (fun b hb => hs b (List.mem_cons_of_mem _ hb)) e

theorem readS_ok {t : List UInt8} {l : List (Sl.Subj × Sl.Lim)} (h : (readS t).1 = some l) : OkT l ∧ defaultsB l = true := by
  obtain ⟨ht, h0, hg, hd, _⟩ := readS_some h
  obtain ⟨hl, hn⟩ := readS_lim h
  have hsc := scan_ok (Sl.lines t) 0 [] (fun x hx => by have := Sl.lgo_mem _ _ _ hx; simp at this; omega) (by simp)
  exact ⟨⟨gatherS_ok _ _ _ ⟨by simp, List.Pairwise.nil⟩ (fun a ha => ⟨(hsc.1 a ha).1, (hsc.1 a ha).2.1⟩) hg, fun x hx => ⟨(hl x hx).1.2, (hl x hx).2.2⟩, hn⟩, hd⟩

set_option maxRecDepth 100000 in
set_option maxHeartbeats 4000000 in
theorem refNew_any (t : List UInt8) (w : World) (hG : 7 ≤ w.heap.size) :
    Calls Tryz.prog 57 #[.string ⟨t.toArray⟩] w fun e w' => Below w.heap.size w w' ∧
      (((readS t).1 = none ∧ e = .returned (.tuple #[.pointer none, .int .i64 (readS t).2.1, .int .i64 (readS t).2.2])) ∨
       ∃ l rb v, (readS t).1 = some l ∧ e = .returned (.tuple #[.pointer (some ⟨rb, 0, none⟩), .int .i64 0, .int .i64 0]) ∧ IsRef w' rb v (.slice none 0 0) 0 l ∧ w.heap.size ≤ rb ∧ ∀ g, v.ownBlock = some g → w.heap.size ≤ g) := by
  have hrd := hide (refRead_any t w)
  cases hr : (readS t).1 with
  | none =>
    have hpos := readS_none t hr
    have HR := hide hr
    have hne : (((readS t).2.1 : Int) == 0) = false := by rw [beq_eq_false_iff_ne]; omega
    clear hr hpos
    go_enter Tryz.func57, Tryz.ntmps57
    go_wp2_with fail
    refine (unhide hrd).mono ?_
    rintro e w1 ⟨hb, v, rfl, -⟩
    go_wp2
    go_ret3
    exact ⟨hb, .inl ⟨trivial, rfl⟩⟩
  | some l =>
    obtain ⟨hok, hd⟩ := readS_ok hr
    have h0 := (readS_some hr).2.2.2.2
    have HH := hide (And.intro hok (And.intro hd hr))
    have H0 := hide h0
    clear hok hd hr h0
    go_enter Tryz.func57, Tryz.ntmps57
    go_wp2_with fail
    refine (unhide hrd).mono ?_
    rintro e w1 ⟨hb, v, rfl, hv⟩
    have hown : w1.ownsRow w.heap.size 178 6 v l.length (saidAll l) := by
      rcases hv with ⟨h, _⟩ | ⟨l', h, ho⟩
      · rw [(unhide HH).2.2] at h; cases h
      · rw [(unhide HH).2.2] at h; cases h; exact ho
    rw [unhide H0]
    have HO := hide hown
    have hs := hb.size
    clear hv hown
    obtain ⟨a5, c5, e5⟩ : ∃ a c, v = .slice a l.length c := by
      rcases own_shape (unhide HO) with ⟨h, h2⟩ | ⟨g, cap, h, _⟩
      · exact ⟨_, _, by rw [h, h2]⟩
      · exact ⟨_, _, h⟩
    subst e5
    go_wp2
    go_ret3
    refine ⟨hb.alloc hs _, .inr ⟨l, w1.heap.size, .slice a5 l.length c5, rfl, rfl, ⟨(MapKept.heap_alloc w1 _).1, own_weak (own_below (unhide HO) (Below.alloc1 _ _)) (Nat.zero_le _), (unhide HH).1, (unhide HH).2.1, by omega⟩, hs, own_base (unhide HO)⟩⟩

set_option maxRecDepth 100000 in
set_option maxHeartbeats 4000000 in
theorem refReload_any (t : List UInt8) (rb : Nat) (v vB : Value) (tm : Nat) (l : List (Sl.Subj × Sl.Lim)) (w : World) (h : IsRef w rb v vB tm l) :
    Calls Tryz.prog 58 #[.pointer (some ⟨rb, 0, none⟩), .string ⟨t.toArray⟩] w fun e w' => e = .returned (.tuple #[.int .i64 (readS t).2.1, .int .i64 (readS t).2.2]) ∧ w.grownBy w' (some rb) ∧
      (((readS t).1 = none ∧ Below w.heap.size w w') ∨ ∃ l' v', (readS t).1 = some l' ∧ IsRef w' rb v' vB tm l' ∧ ∀ g, v'.ownBlock = some g → w.heap.size ≤ g) := by
  have hrd := hide (refRead_any t w)
  have hrb := h.lt
  have hat := h.at_
  have hlow := h.low
  cases hr : (readS t).1 with
  | none =>
    have hpos := readS_none t hr
    have hne : (((readS t).2.1 : Int) == 0) = false := by rw [beq_eq_false_iff_ne]; omega
    clear hr hpos h
    go_enter Tryz.func58, Tryz.ntmps58
    go_wp2_with fail
    refine (unhide hrd).mono ?_
    rintro e w1 ⟨hb, v, rfl, -⟩
    go_wp2
    go_ret2
    exact ⟨rfl, grown_below hb, .inl ⟨trivial, hb⟩⟩
  | some l' =>
    obtain ⟨hok, hd⟩ := readS_ok hr
    have h0 := (readS_some hr).2.2.2.2
    have HH := hide (And.intro hok (And.intro hd hr))
    have H0 := hide h0
    rw [h0]
    clear hok hd hr h0 h
    go_enter Tryz.func58, Tryz.ntmps58
    go_wp2_with fail
    refine (unhide hrd).mono ?_
    rintro e w1 ⟨hb, v', rfl, hv⟩
    have hown : w1.ownsRow w.heap.size 178 6 v' l'.length (saidAll l') := by
      rcases hv with ⟨h, _⟩ | ⟨l2, h, ho⟩
      · rw [(unhide HH).2.2] at h; cases h
      · rw [(unhide HH).2.2] at h; cases h; exact ho
    rw [unhide H0]
    have HO := hide hown
    have hs := hb.size
    have hat1 : w1.heap[rb]? = some (.cells #[v, vB, .int .i64 tm] 140 (0, 0)) := (hb.block rb hrb).trans hat
    have HAT := hide hat1
    have hc0 : w1.cell? ⟨rb, 0, none⟩ = some v := by simp [World.cell?, hat1]
    have hf0 : w1.frozen? ⟨rb, 0, none⟩ = false := by simp [World.frozen?, hat1]
    clear hv hown hat1 hat
    obtain ⟨a5, c5, e5⟩ : ∃ a c, v' = .slice a l'.length c := by
      rcases own_shape (unhide HO) with ⟨h, h2⟩ | ⟨g, cap, h, _⟩
      · exact ⟨_, _, by rw [h, h2]⟩
      · exact ⟨_, _, h⟩
    subst e5
    go_wp2
    go_ret2
    have hne : rb ≠ w1.heap.size := by omega
    refine ⟨rfl, (grown_below (row := some rb) hb).trans (grown_set w1 rb 0 _), .inr ⟨l', _, rfl, ⟨heap_setCell_at (unhide HAT) 0 _, ?_, (unhide HH).1, (unhide HH).2.1, hlow⟩, own_base (unhide HO)⟩⟩
    refine own_weak ((unhide HO).kept (grown_set w1 rb 0 _) ?_) (Nat.zero_le _)
    cases hq : (Value.slice a5 l'.length c5).ownBlock with
    | none => exact .inl rfl
    | some g =>
      right
      have := own_base (unhide HO) g hq
      intro e
      cases e
      omega

end Go.Proofs.YthmhfilkgggagaaGreatDoor

namespace Go.Proofs.YthmhfilkgggagaaGreatDoor
open Go.RowKit Go.Maps Go.Sort

/-- A line, or one of the two that are none: what 'before' looks at, and the limit. -/
structure Ln where
  kind : Int
  cls : Int
  org : List UInt8
  ten : List UInt8
  rate : Int
  burst : Int

def lnOf (x : Sl.Subj × Sl.Lim) : Ln := ⟨x.1.kind, x.1.cls, x.1.org, x.1.ten, x.2.rate, x.2.burst⟩
def lnV (x : Ln) : Value := said6 x.kind x.cls ⟨x.org.toArray⟩ ⟨x.ten.toArray⟩ x.rate x.burst
def bef (a b : Ln) : Bool := beforeB a.kind a.cls a.org a.ten b.kind b.cls b.org b.ten
def firstLn : Ln := ⟨-1, 0, [], [], 0, 0⟩
def lastLn : Ln := ⟨9, 0, [], [], 0, 0⟩

theorem befLn_any (a b : Ln) (w : World) :
    Calls Tryz.prog 92 #[lnV a, lnV b] w fun e w' => e = .returned (.bool (bef a b)) ∧ Below w.heap.size w w' :=
  before_any a.kind a.cls a.org a.ten a.rate a.burst b.kind b.cls b.org b.ten b.rate b.burst w

theorem bef_lt (x y : Sl.Subj × Sl.Lim) : bef (lnOf x) (lnOf y) = true ↔ ltS x.1 y.1 := by
  unfold bef beforeB lnOf ltS
  simp only []
  by_cases hk : x.1.kind = y.1.kind
  · rw [if_pos (by omega)]
    by_cases ho : x.1.org = y.1.org
    · rw [if_pos ho]
      by_cases ht : x.1.ten = y.1.ten
      · rw [if_pos ht]
        simp [hk, ho, ht, less_irrefl]
      · rw [if_neg ht]
        simp [hk, ho, ht, less_irrefl]
    · rw [if_neg ho]
      simp [hk, ho]
  · rw [if_neg (by omega)]
    simp [hk]

theorem bef_first (x : Sl.Subj × Sl.Lim) : bef firstLn (lnOf x) = true := by
  unfold bef beforeB firstLn lnOf
  simp only []
  rw [if_neg (by omega)]
  simp; omega
theorem bef_last (x : Sl.Subj × Sl.Lim) (h : x.1.kind < 4) : bef (lnOf x) lastLn = true := by
  unfold bef beforeB lastLn lnOf
  simp only []
  rw [if_neg (by omega)]
  simp; omega

/-- The subjects in their order. -/
def ordS (l : List (Sl.Subj × Sl.Lim)) : List Sl.Subj := sortS (l.map (·.1))

theorem ord_strict {l : List (Sl.Subj × Sl.Lim)} (h : OkL l) : (ordS l).Pairwise ltS := by
  have h1 : (ordS l).Pairwise fun a b => leS a b = true := List.pairwise_mergeSort leS_trans leS_total _
  have h2 : (ordS l).Pairwise fun a b => a ≠ b := by
    have : (l.map (·.1)).Pairwise fun a b => a ≠ b := List.pairwise_map.2 h.2
    exact (sortS_perm _).symm.pairwise this (fun hab => hab.symm)
  refine (h1.and h2).imp ?_
  intro a b ⟨h3, h4⟩
  rw [leS_iff] at h3
  rcases ltS_total a b with g | g | g
  · exact g
  · exact absurd g h4
  · exact absurd g h3

theorem ord_mem {l : List (Sl.Subj × Sl.Lim)} {s : Sl.Subj} : s ∈ ordS l ↔ ∃ x ∈ l, x.1 = s := by
  rw [ordS, (sortS_perm _).mem_iff, List.mem_map]

theorem ord_len (l : List (Sl.Subj × Sl.Lim)) : (ordS l).length = l.length := by
  rw [ordS, (sortS_perm _).length_eq, List.length_map]

/-- The last line that was told, when k lines are told. -/
def Last (l : List (Sl.Subj × Sl.Lim)) (k : Nat) (a : Ln) : Prop := ∀ x ∈ l, bef a (lnOf x) = true ↔ ∃ i, k ≤ i ∧ (ordS l)[i]? = some x.1

theorem last_start (l : List (Sl.Subj × Sl.Lim)) : Last l 0 firstLn := by
  intro x hx
  refine ⟨fun _ => ?_, fun _ => bef_first x⟩
  obtain ⟨i, hi, e⟩ := List.getElem_of_mem (ord_mem.2 ⟨x, hx, rfl⟩)
  exact ⟨i, Nat.zero_le _, by rw [List.getElem?_eq_getElem hi, e]⟩

theorem ord_lt {l : List (Sl.Subj × Sl.Lim)} (h : OkL l) {i j : Nat} {a b : Sl.Subj} (ha : (ordS l)[i]? = some a) (hb : (ordS l)[j]? = some b) : ltS a b ↔ i < j := by
  obtain ⟨hi, rfl⟩ := List.getElem?_eq_some_iff.1 ha
  obtain ⟨hj, rfl⟩ := List.getElem?_eq_some_iff.1 hb
  have hs := List.pairwise_iff_getElem.1 (ord_strict h)
  constructor
  · intro hl
    apply Classical.byContradiction
    intro hn
    by_cases e : i = j
    · subst e; exact ltS_irrefl _ hl
    · exact ltS_irrefl _ (ltS_trans hl (hs j i hj hi (by omega)))
  · exact fun hl => hs i j hi hj hl

theorem last_next {l : List (Sl.Subj × Sl.Lim)} (h : OkL l) {k : Nat} {x : Sl.Subj × Sl.Lim} (hx : (ordS l)[k]? = some x.1) : Last l (k + 1) (lnOf x) := by
  intro y hy
  rw [bef_lt]
  obtain ⟨i, hi, e⟩ := List.getElem_of_mem (ord_mem.2 ⟨y, hy, rfl⟩)
  have hyi : (ordS l)[i]? = some y.1 := by rw [List.getElem?_eq_getElem hi, e]
  rw [ord_lt h hx hyi]
  constructor
  · exact fun hl => ⟨i, hl, hyi⟩
  · rintro ⟨j, hj, e2⟩
    apply Classical.byContradiction
    intro hn
    have h1 : ¬ ltS y.1 y.1 := ltS_irrefl _
    rw [ord_lt h hyi e2] at h1
    omega

/-- The least line behind the last one, among the first i. -/
def Best (l : List (Sl.Subj × Sl.Lim)) (a : Ln) (i : Nat) (b : Ln) : Prop :=
  (b = lastLn ∧ ∀ x ∈ l.take i, bef a (lnOf x) = false) ∨ ∃ x ∈ l.take i, b = lnOf x ∧ bef a (lnOf x) = true ∧ ∀ y ∈ l.take i, bef a (lnOf y) = true → bef (lnOf y) (lnOf x) = false

theorem best_start (l : List (Sl.Subj × Sl.Lim)) (a : Ln) : Best l a 0 lastLn := .inl ⟨rfl, by simp⟩

theorem take_mem {l : List (Sl.Subj × Sl.Lim)} {i : Nat} (hi : i < l.length) {P : (Sl.Subj × Sl.Lim) → Prop} (h : ∀ x ∈ l.take i, P x) (h2 : P l[i]) : ∀ x ∈ l.take (i + 1), P x := by
  intro x hx
  rw [List.take_succ_eq_append_getElem hi] at hx
  rcases List.mem_append.1 hx with hx | hx
  · exact h x hx
  · simp at hx; subst hx; exact h2

theorem mem_take {l : List (Sl.Subj × Sl.Lim)} {i : Nat} (hi : i < l.length) {x : Sl.Subj × Sl.Lim} (h : x ∈ l.take i) : x ∈ l.take (i + 1) := by
  rw [List.take_succ_eq_append_getElem hi]; exact List.mem_append.2 (.inl h)
theorem nth_take {l : List (Sl.Subj × Sl.Lim)} {i : Nat} (hi : i < l.length) : l[i] ∈ l.take (i + 1) := by
  rw [List.take_succ_eq_append_getElem hi]; exact List.mem_append.2 (.inr (by simp))

theorem bef_asymm {x y : Sl.Subj × Sl.Lim} (h : bef (lnOf x) (lnOf y) = true) : bef (lnOf y) (lnOf x) = false := by
  cases e : bef (lnOf y) (lnOf x) with
  | false => rfl
  | true =>
    rw [bef_lt] at h e
    exact absurd (ltS_trans h e) (ltS_irrefl _)

theorem bef_trans_no {x y z : Sl.Subj × Sl.Lim} (h1 : bef (lnOf x) (lnOf z) = false) (h2 : bef (lnOf y) (lnOf z) = true) : bef (lnOf x) (lnOf y) = false := by
  cases e : bef (lnOf x) (lnOf y) with
  | false => rfl
  | true =>
    rw [bef_lt] at h2 e
    have : bef (lnOf x) (lnOf z) = true := (bef_lt _ _).2 (ltS_trans e h2)
    rw [this] at h1; cases h1

theorem best_take {l : List (Sl.Subj × Sl.Lim)} {a b : Ln} {i : Nat} (hi : i < l.length) (h : Best l a i b) (h1 : bef a (lnOf l[i]) = true) (h2 : bef (lnOf l[i]) b = true) : Best l a (i + 1) (lnOf l[i]) := by
  right
  refine ⟨l[i], nth_take hi, rfl, h1, take_mem hi ?_ ?_⟩
  · intro y hy hya
    rcases h with ⟨_, h⟩ | ⟨x, hx, rfl, hxa, hmin⟩
    · rw [h y hy] at hya; cases hya
    · exact bef_trans_no (hmin y hy hya) h2
  · intro _
    cases e : bef (lnOf l[i]) (lnOf l[i]) with
    | false => rfl
    | true => rw [bef_lt] at e; exact absurd e (ltS_irrefl _)

theorem best_keep {l : List (Sl.Subj × Sl.Lim)} {a b : Ln} {i : Nat} (hi : i < l.length) (hk : l[i].1.kind < 4) (h : Best l a i b) (h1 : ¬ (bef a (lnOf l[i]) = true ∧ bef (lnOf l[i]) b = true)) : Best l a (i + 1) b := by
  rcases h with ⟨rfl, h⟩ | ⟨x, hx, rfl, hxa, hmin⟩
  · left
    refine ⟨rfl, take_mem hi h ?_⟩
    cases e : bef a (lnOf l[i]) with
    | false => rfl
    | true => exact absurd ⟨e, bef_last _ hk⟩ h1
  · right
    refine ⟨x, mem_take hi hx, rfl, hxa, take_mem hi hmin ?_⟩
    intro h2
    cases e : bef (lnOf l[i]) (lnOf x) with
    | false => rfl
    | true => exact absurd ⟨h2, e⟩ h1

/-- What the inner loop leaves: nothing more, or the next line. -/
theorem best_end {l : List (Sl.Subj × Sl.Lim)} (hl : OkL l) {k : Nat} {a b : Ln} (ha : Last l k a) (h : Best l a l.length b) (hk : k ≤ l.length) :
    (b = lastLn ∧ k = l.length) ∨ ∃ x ∈ l, b = lnOf x ∧ (ordS l)[k]? = some x.1 ∧ k < l.length := by
  rw [Best, List.take_length] at h
  have hlen := ord_len l
  by_cases hkl : k < l.length
  · right
    have hko : k < (ordS l).length := by omega
    obtain ⟨z, hz, ez⟩ := ord_mem.1 (List.getElem_mem hko)
    have hzk : (ordS l)[k]? = some z.1 := by rw [List.getElem?_eq_getElem hko, ez]
    have hza : bef a (lnOf z) = true := (ha z hz).2 ⟨k, Nat.le_refl _, hzk⟩
    rcases h with ⟨_, h⟩ | ⟨x, hx, rfl, hxa, hmin⟩
    · rw [h z hz] at hza; cases hza
    · refine ⟨x, hx, rfl, ?_, hkl⟩
      obtain ⟨i, hi, e⟩ := (ha x hx).1 hxa
      have h1 := hmin z hz hza
      by_cases hik : i = k
      · subst hik; exact e
      · have : bef (lnOf z) (lnOf x) = true := (bef_lt _ _).2 ((ord_lt hl hzk e).2 (by omega))
        rw [this] at h1; cases h1
  · left
    refine ⟨?_, by omega⟩
    rcases h with ⟨rfl, _⟩ | ⟨x, hx, rfl, hxa, _⟩
    · rfl
    · obtain ⟨i, hi, e⟩ := (ha x hx).1 hxa
      have := (List.getElem?_eq_some_iff.1 e).1
      omega

/-- How a line begins. -/
def frontT (s : Sl.Subj) : List UInt8 := if s.kind = 0 then Sl.defaultW ++ 32 :: Sl.orgW else if s.kind = 1 then Sl.defaultW ++ 32 :: Sl.tenantW else if s.kind = 2 then Sl.orgW ++ 32 :: s.org else Sl.tenantW ++ 32 :: (s.org ++ 32 :: s.ten)

theorem line_parts (s : Sl.Subj) (m : Sl.Lim) : lineText s m = frontT s ++ (32 :: Sl.classW s.cls ++ [32]) ++ Lib.decDigits m.rate ++ [32] ++ Lib.decDigits m.burst ++ [10] := by
  unfold lineText frontW frontT
  rw [join_jn]
  split
  · simp [jn]
  · split
    · simp [jn]
    · split
      · simp [jn]
      · simp [jn]

end Go.Proofs.YthmhfilkgggagaaGreatDoor
