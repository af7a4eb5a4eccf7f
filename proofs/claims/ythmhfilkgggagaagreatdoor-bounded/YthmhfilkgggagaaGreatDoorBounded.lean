/-
  Bounded: the walk.
-/
import Derived.Test.YthmhfilkgggagaaGreatDoorBdA
import Derived.Deep.CutRange
namespace Go.Proofs.YthmhfilkgggagaaGreatDoor
open Go.RowKit Go.Maps Go.Sort

abbrev nilMo : Value := .slice none 0 0

/-- The bag at its beginning: no moment yet. -/
theorem Bag.begin {w0 : World} {s : St} {W : World} {db pb : Nat} {pcs : List Value} (way : Way w0 s W) (dice : Dice W db w0.heap.size) (doff : ¬ s.foot db) (plan : Held s W pb pcs) (pd : pb ≠ db) (dl : w0.heap.size ≤ db) :
    Bag w0 s ((W.alloc (.cells #[nilMo, nilMo, nilMo, nilMo, nilMo, nilMo, nilMo, nilMo] 56)).alloc (.cells #[nilMo, nilMo, nilMo, nilMo] 55)) db W.heap.size (W.heap.size + 1) pb pcs (fun _ => nilMo) (fun _ => []) := by
  have hb := (Below.alloc1 W (.cells #[nilMo, nilMo, nilMo, nilMo, nilMo, nilMo, nilMo, nilMo] 56)).alloc (by simp) (.cells #[nilMo, nilMo, nilMo, nilMo] 55)
  have h1 := Blk.made way.at_ #[nilMo, nilMo, nilMo, nilMo, nilMo, nilMo, nilMo, nilMo] 56
  have h2 := Blk.made (way.alloc (.cells #[nilMo, nilMo, nilMo, nilMo, nilMo, nilMo, nilMo, nilMo] 56)).at_ #[nilMo, nilMo, nilMo, nilMo] 55
  have hs := way.below.size
  have hd := dice.lt
  have hp := plan.lt
  refine ⟨way.step hb, dice.only (Only.below (S := fun _ => False) hb) (fun h => h) (fun k h => h.elim), doff, h1.alloc _, by simpa using h2, ⟨by omega, by omega, by omega⟩, ⟨by omega, by omega, by omega⟩, fun j => World.ownsRow_nil _ _ _ _, fun i j g _ h => by simp [Value.ownBlock] at h, fun j g h => by simp [Value.ownBlock] at h, plan.below hb, ⟨by omega, by omega, pd⟩, fun j => by simp [Value.ownBlock]⟩

set_option maxRecDepth 100000 in
set_option maxHeartbeats 40000000 in
theorem bounded_any (cp : Option Addr) (cn cc : Nat) (w : World) (hE : Env w)
    (hn : cn ≤ 281474976710656) (hcode : 0 < cn → ∃ a, cp = some a ∧ a.block < w.heap.size ∧ ∀ i, i < cn → ∃ x : Int, w.cell? (a.add i) = some (.int .i64 x) ∧ -9223372036854775808 ≤ x ∧ x ≤ 9223372036854775807) :
    Calls Tryz.prog 8 #[.slice cp cn cc] w fun e w' => e = .returned (.bool true) ∧ Below w.heap.size w w' := by
  have hd0 := dice_laid (Below.refl w.heap.size w) cp cn cc hn hcode
  have hpl := hide (planned_any w.heap.size w.heap.size _ hd0)
  have hz := hE.size
  have HE := hide hE
  clear hd0 hcode hE
  go_enter Tryz.func8, Tryz.ntmps8
  go_wp2_with fail
  refine (unhide hpl).mono ?_
  rintro e w1 ⟨hd1, hg1, p, hp, rfl⟩
  have hb1 : Below w.heap.size w w1 := plan_taken hg1
  obtain ⟨wz, hst, hbz, hrz, hzz⟩ := plan_laid p w1
  have hbz0 := hb1.trans (hbz.mono hb1.size)
  have hfn := plan_f p hp
  have hEz := ((unhide HE).below hb1 hz).below hbz (Nat.le_trans hz hb1.size)
  have hdz : Dice wz w.heap.size w.heap.size := hd1.only (Only.below (S := fun _ => False) hbz) (fun h => h) (fun k h => h.elim)
  obtain ⟨cs, hcs⟩ : ∃ cs : List Value, pc p = cs.toArray := ⟨(pc p).toList, rfl⟩
  rw [hcs] at hst hfn hrz ⊢
  simp only [] at hst hfn hrz
  have hd1l := hd1.lt
  have HP := hide hp; have HF := hide hfn; have HR := hide hrz; have HBZ := hide hbz0; have HEZ := hide hEz; have HDZ := hide hdz
  have hlen : cs.length = 32 := hfn.len
  have hs1 := hb1.size
  have hz1 : w1.heap.size < wz.heap.size := by omega
  have hs0 : w.heap.size ≤ wz.heap.size := by omega
  have hdw := hdz.lt
  clear hzz hp hd1 hg1 hb1 hbz hrz hpl hcs hfn hbz0 hEz HE hdz
  go_wp2_with (first
    | (refine wpList_load_mid rfl 32 (.tmp 4) rfl w1.heap.size 0 rfl cs _ (unhide HR) Tryz.underlying32 rfl ?_ ?_; (rw [hlen]; exact plan_size)))
  refine ((unhide HF).made wz (unhide HEZ)).mono ?_
  rintro e w3 ⟨s, rfl, hat, hb3, hft, hsl, hst0, hsv⟩
  have hrg := Below.range hb3 (by omega) (unhide HR)
  have hW : Way w s w3 := ⟨hat, (unhide HEZ).below hb3 (by omega), (unhide HBZ).trans (hb3.mono hs0), hz, fun k hk => Nat.le_trans hs0 (hft k hk)⟩
  have hD3 := (unhide HDZ).only (Only.below (S := fun _ => False) hb3) (fun h => h) (fun k h => h.elim)
  have hDO : ¬ s.foot w.heap.size := fun hk => by have := hft _ hk; omega
  have hHp : Held s w3 w1.heap.size cs := Held.of_range hrg (by have := hb3.size; omega) (fun hk => by have := hft _ hk; omega)
  have HBG := hide (Bag.begin hW hD3 hDO hHp (by omega) (Nat.le_refl _))
  have HND := hide (Bnd.begin p s hsl hst0 hsv (IsSl.core hat |>.ok))
  clear hat hb3 hft hsl hst0 hsv HR HBZ HEZ hst HDZ hrg hW hD3 hDO hHp
  go_wp2_with fail
  generalize hOB : w3.heap.size + 1 = OB at *
  generalize hTB : w3.heap.size = TB at *
  have hw1w : w.heap.size ≠ w1.heap.size := by omega
  generalize hPB : w1.heap.size = PB at *
  clear hOB hTB hPB
  go_loopw [8] (fun v8 wr => ∃ (i : Nat) (t : St) (vs : Nat → Value) (ms : Nat → List Mo), i ≤ 60 ∧ v8 = .int .i64 i ∧ Bag w t wr w.heap.size TB OB PB cs vs ms ∧ Bnd p i t ms ∧ t.sb = s.sb) (fun v8 _ => 60 - (intOf v8).toNat)
  case atStart => exact ⟨0, s, _, _, by omega, rfl, unhide HBG, unhide HND, rfl⟩
  case round =>
    obtain ⟨i, t, vs, ms, hi, rfl, hbag, hbnd, htsb⟩ := hrel
    have HB := hide hbag; have HN := hide hbnd
    clear hbag hbnd HBG HND
    by_cases hlt : i < 60
    · have hii : (i : Int) < 60 := by omega
      have hnx := hide (next_any 2 w.heap.size w.heap.size _ (unhide HB).dice (by omega) (by omega))
      go_wp2_with fail
      refine (unhide hnx).mono ?_
      rintro e wa ⟨hd, hg, c, hc, rfl⟩
      have HBa := hide ((unhide HB).rolled hd hg)
      clear hd hg hnx HB
      have hnx := hide (next_any 2 w.heap.size w.heap.size _ (unhide HBa).dice (by omega) (by omega))
      go_wp2_with fail
      refine (unhide hnx).mono ?_
      rintro e wb ⟨hd, hg, o, ho, rfl⟩
      have HBb := hide ((unhide HBa).rolled hd hg)
      clear hd hg hnx HBa
      have hnx := hide (next_any 2 w.heap.size w.heap.size _ (unhide HBb).dice (by omega) (by omega))
      go_wp2_with fail
      refine (unhide hnx).mono ?_
      rintro e wc ⟨hd, hg, x, hx, rfl⟩
      have HBc := hide ((unhide HBb).rolled hd hg)
      clear hd hg hnx HBb
      have hnx := hide (next_any 12 w.heap.size w.heap.size _ (unhide HBc).dice (by omega) (by omega))
      go_wp2_with fail
      refine (unhide hnx).mono ?_
      rintro e wd ⟨hd, hg, k, hk, rfl⟩
      have HBd := hide ((unhide HBc).rolled hd hg)
      clear hd hg hnx HBc
      obtain ⟨Q, hQ⟩ : ∃ Q, Q = 1 + k := ⟨_, rfl⟩
      have eQ : (1 : Int) + (k : Int) = (Q : Int) := by omega
      have hQ1 : 1 ≤ Q := by omega
      have hQ2 : Q ≤ 12 := by omega
      have hlv := st_level t (Sl.classW c) (orgW o) [] wd (unhide HBd).way.at_
      rw [levelA_org _ c o hc, htsb] at hlv
      have hLb := levOf_le (unhide HN).ok (c, orgW o, [])
      generalize hLA : levOf t.lv (c, orgW o, []) = LA at hlv hLb
      have HLA := hide hLA
      have HLV := hide hlv
      clear hlv hLA hQ hk
      go_wp2_with (first | (go_at_call 23; refine (class_any c _ hc).mono ?_; rintro e wx ⟨rfl, rfl⟩) | (go_at_call 24; refine (org_any o _ ho).mono ?_; rintro e wx ⟨rfl, rfl⟩) | (go_at_call 25; refine (tenant_any x _ hx).mono ?_; rintro e wx ⟨rfl, rfl⟩))
      refine (unhide HLV).mono ?_
      rintro e we ⟨rfl, hwe⟩
      have HBe := hide ((unhide HBd).went hwe)
      clear hwe HBd HLV
      have k1 : limK t.l (c, orgW o, []) = limOrg p c o := by rw [(unhide HN).l]; exact limK_org (holds_self p) (unhide HP) c o hc ho
      have k2 : limK t.l (c, orgW o, tenW x) = limTen p c o x := by rw [(unhide HN).l]; exact limK_ten (holds_self p) (unhide HP) c o x hc ho hx
      have hcs3 := admit_cases t.l t.lv (c, orgW o, tenW x) Q (unhide HN).few (by show 0 < (limK t.l (c, orgW o, [])).rate; rw [k1]; exact (limOrg_ok (unhide HP) c o hc).1.1) (by rw [k2]; exact (limTen_ok (unhide HP) c o x hc).1.1)
      have hadm := st_admit t (Sl.classW c) (orgW o) (tenW x) (Q : Nat) we (unhide HBe).way.at_
      rw [admA_plan t.l t.lv c o x Q hc hQ1 (by omega), htsb] at hadm
      have htm := (unhide HN).early hlt
      clear k1 k2
      rcases hcs3 with hA | ⟨M, Y, hM, hA⟩ | ⟨hb1, hb2, hA⟩
      · rw [hA] at hadm
        simp only [] at hadm
        have HADM := hide hadm
        clear hadm hA
        go_wp2_with (first | (go_at_call 23; refine (class_any c _ hc).mono ?_; rintro e wx ⟨rfl, rfl⟩) | (go_at_call 24; refine (org_any o _ ho).mono ?_; rintro e wx ⟨rfl, rfl⟩) | (go_at_call 25; refine (tenant_any x _ hx).mono ?_; rintro e wx ⟨rfl, rfl⟩))
        refine (unhide HADM).mono ?_
        rintro e wf ⟨rfl, t2, hw2, hl2, ht2, hv2⟩
        have hBf := (unhide HBe).went hw2
        have hAn := Blk.made hBf.way.at_ #[.int .i64 413, .int .i64 0, .int .i64 0] 61
        have hBg := hBf.below (Below.alloc1 wf (.cells #[.int .i64 413, .int .i64 0, .int .i64 0] 61))
        have hlv := st_level t2 (Sl.classW c) (orgW o) [] _ hBg.way.at_
        have hokv : OkV t2.lv := IsSl.core hBf.way.at_ |>.ok
        have hN2 := ((unhide HN).same (t' := t2) ht2 hl2 hv2).next
        have HN2 := hide hN2
        have eLev : levOf t2.lv (c, orgW o, []) = LA := by rw [hv2]; exact unhide HLA
        clear hN2
        rw [levelA_org _ c o hc, hw2.sb.trans htsb, eLev] at hlv
        have HBg := hide hBg; have HAn := hide hAn; have HLV := hide hlv
        have HT2 := hide (And.intro (hw2.sb.trans htsb) (And.intro hl2 (And.intro ht2 hv2)))
        clear hBf hAn hBg hlv hw2 hl2 ht2 hv2 hokv eLev HBe HADM
        go_wp2_with (first | (go_at_call 23; refine (class_any c _ hc).mono ?_; rintro e wx ⟨rfl, rfl⟩) | (go_at_call 24; refine (org_any o _ ho).mono ?_; rintro e wx ⟨rfl, rfl⟩) | (go_at_call 25; refine (tenant_any x _ hx).mono ?_; rintro e wx ⟨rfl, rfl⟩))
        refine (unhide HLV).mono ?_
        rintro e wg ⟨rfl, hwg⟩
        have hBh := (unhide HBg).went hwg
        have hAh := (unhide HAn).went hwg
        have hnow := st_now t2 wg hBh.way.at_
        rw [(unhide HT2).1] at hnow
        have HBh := hide hBh; have HAh := hide hAh; have HNOW := hide hnow
        clear hBh hAh hnow hwg HBg HAn HLV
        go_wp2_with fail
        refine (unhide HNOW).mono ?_
        rintro e wh ⟨rfl, hwh⟩
        have hBi := (unhide HBh).went hwh
        have hAi := ((unhide HAh).went hwh).alloc (.cells #[.int .i64 (t2.tm : Nat), .int .i64 Q] 68)
        have hMo := Blk.made hBi.way.at_ #[.int .i64 (t2.tm : Nat), .int .i64 Q] 68
        have hBm : BagM w t2 (wh.alloc (.cells #[.int .i64 (t2.tm : Nat), .int .i64 Q] 68)) w.heap.size TB OB wh.heap.size PB cs vs ms (t2.tm, Q) := ⟨hBi.below (Below.alloc1 _ _), hMo, fun j e => by have := hBi.lt e; omega, by have := hBi.ten.lt; omega, by have := hBi.org.lt; omega⟩
        have n0 := hAi.cell 0 _ rfl
        have n1 := hAi.cell 1 _ rfl
        have HBm := hide hBm
        have hnx := hide (next_any 3 w.heap.size w.heap.size _ hBm.bag.dice (by omega) (by omega))
        clear hBi hAi hMo hBm hwh HBh HAh HNOW
        go_wp2_with fail
        refine (unhide hnx).mono ?_
        rintro e wi ⟨hd, hg, r3, hr3, rfl⟩
        have HBj := hide ((unhide HBm).bag.rolled hd hg)
        clear hd hg hnx HBm
        by_cases h30 : r3 = 0
        · subst h30
          go_wp2_with fail
          refine bd_reg31 _ _ _ _ _ _ _ _ _ _ _ _ _ _ _ _ _ _ _ _ _ _ _ _ _ _ _ _ _ _ _ _ _ _ _ _ _ _ _ _ _ _ _ _ _ _ _ _ _ _ _ _ _ _ _ _ _ _ _ _ _ _ _ _ _ _ _ _ _ _ _ _ _ _ _ _ _ _ _ _ _ _ _ _ _ _ _ _ _ _ _ _ _ _ _ _ _ _ _ _ _ _ _ _ _ _ _ _ _ _ _ _ _ _ _ _ _ _ _ _ _ _ _ _ _ _ _ _ _ _ _ _ _ _ _ _ _ _ _ _ _ _ _ _ _ _ _ _ _ _ _ _ _ _ _ _ _ _ _ _ _ _ _ _ _ _ _ _ _ _ _ _ _ _ _ _ _ _ _ _ _ _ _ _ _ _ _ _ _ _ _ _ _ _ _ _ _ _ _ _ _ _ _ _ _ _ _ _ _ w t2 s.sb (unhide HT2).1 _ w.heap.size TB OB PB cs vs ms (unhide HBj) (by have := (unhide HT2).2.2.1; omega) _ ?_
          intro v152 v153 v154 v155 v156 v157 v158 v159 v160 v161 W' s' d hB' e1 e2 e3 e4 hd'
          have HBk := hide hB'
          have HFN := hide (And.intro (e1.trans (unhide HT2).1) ((unhide HN2).tick (unhide HP) d (by rw [(unhide HT2).2.2.1]; exact tm_step (unhide HN).tm hd') e2 e3 e4))
          clear hB' e1 e2 e3 e4
          go_wp2
          go_roundw
          case rel => exact ⟨i + 1, s', vs, ms, by omega, by go_num, unhide HBk, (unhide HFN).2, (unhide HFN).1⟩
          case measure => simp [intOf]; omega
        · have h31 : ¬ (r3 : Int) = 0 := by omega
          go_wp2
          go_roundw
          case rel => exact ⟨i + 1, t2, vs, ms, by omega, by go_num, unhide HBj, (unhide HN2), (unhide HT2).1⟩
          case measure => simp [intOf]; omega
      · rw [hA] at hadm
        simp only [] at hadm
        have HADM := hide hadm
        clear hadm hA
        have hM1 : (0 : Int) < (M : Int) := by omega
        go_wp2_with (first | (go_at_call 23; refine (class_any c _ hc).mono ?_; rintro e wx ⟨rfl, rfl⟩) | (go_at_call 24; refine (org_any o _ ho).mono ?_; rintro e wx ⟨rfl, rfl⟩) | (go_at_call 25; refine (tenant_any x _ hx).mono ?_; rintro e wx ⟨rfl, rfl⟩))
        refine (unhide HADM).mono ?_
        rintro e wf ⟨rfl, t2, hw2, hl2, ht2, hv2⟩
        have hBf := (unhide HBe).went hw2
        have hAn := Blk.made hBf.way.at_ #[.int .i64 429, .int .i64 M, .int .i64 Y] 61
        have hBg := hBf.below (Below.alloc1 wf (.cells #[.int .i64 429, .int .i64 M, .int .i64 Y] 61))
        have hlv := st_level t2 (Sl.classW c) (orgW o) [] _ hBg.way.at_
        have hokv : OkV t2.lv := IsSl.core hBf.way.at_ |>.ok
        have hN2 := ((unhide HN).same (t' := t2) ht2 hl2 hv2).next
        have HN2 := hide hN2
        have eLev : levOf t2.lv (c, orgW o, []) = LA := by rw [hv2]; exact unhide HLA
        clear hN2
        rw [levelA_org _ c o hc, hw2.sb.trans htsb, eLev] at hlv
        have HBg := hide hBg; have HAn := hide hAn; have HLV := hide hlv
        have HT2 := hide (And.intro (hw2.sb.trans htsb) (And.intro hl2 (And.intro ht2 hv2)))
        clear hBf hAn hBg hlv hw2 hl2 ht2 hv2 hokv eLev HBe HADM
        go_wp2_with (first | (go_at_call 23; refine (class_any c _ hc).mono ?_; rintro e wx ⟨rfl, rfl⟩) | (go_at_call 24; refine (org_any o _ ho).mono ?_; rintro e wx ⟨rfl, rfl⟩) | (go_at_call 25; refine (tenant_any x _ hx).mono ?_; rintro e wx ⟨rfl, rfl⟩))
        refine (unhide HLV).mono ?_
        rintro e wg ⟨rfl, hwg⟩
        have hBh := (unhide HBg).went hwg
        have hAh := (unhide HAn).went hwg
        have hnow := st_now t2 wg hBh.way.at_
        rw [(unhide HT2).1] at hnow
        have HBh := hide hBh; have HAh := hide hAh; have HNOW := hide hnow
        clear hBh hAh hnow hwg HBg HAn HLV
        go_wp2_with fail
        refine (unhide HNOW).mono ?_
        rintro e wh ⟨rfl, hwh⟩
        have hBi := (unhide HBh).went hwh
        have hAi := ((unhide HAh).went hwh).alloc (.cells #[.int .i64 (t2.tm : Nat), .int .i64 Q] 68)
        have hMo := Blk.made hBi.way.at_ #[.int .i64 (t2.tm : Nat), .int .i64 Q] 68
        have hBm : BagM w t2 (wh.alloc (.cells #[.int .i64 (t2.tm : Nat), .int .i64 Q] 68)) w.heap.size TB OB wh.heap.size PB cs vs ms (t2.tm, Q) := ⟨hBi.below (Below.alloc1 _ _), hMo, fun j e => by have := hBi.lt e; omega, by have := hBi.ten.lt; omega, by have := hBi.org.lt; omega⟩
        have n0 := hAi.cell 0 _ rfl
        have n1 := hAi.cell 1 _ rfl
        have HBm := hide hBm
        have hnx := hide (next_any 3 w.heap.size w.heap.size _ hBm.bag.dice (by omega) (by omega))
        clear hBi hAi hMo hBm hwh HBh HAh HNOW
        go_wp2_with fail
        refine (unhide hnx).mono ?_
        rintro e wi ⟨hd, hg, r3, hr3, rfl⟩
        have HBj := hide ((unhide HBm).bag.rolled hd hg)
        clear hd hg hnx HBm
        by_cases h30 : r3 = 0
        · subst h30
          go_wp2_with fail
          refine bd_reg31 _ _ _ _ _ _ _ _ _ _ _ _ _ _ _ _ _ _ _ _ _ _ _ _ _ _ _ _ _ _ _ _ _ _ _ _ _ _ _ _ _ _ _ _ _ _ _ _ _ _ _ _ _ _ _ _ _ _ _ _ _ _ _ _ _ _ _ _ _ _ _ _ _ _ _ _ _ _ _ _ _ _ _ _ _ _ _ _ _ _ _ _ _ _ _ _ _ _ _ _ _ _ _ _ _ _ _ _ _ _ _ _ _ _ _ _ _ _ _ _ _ _ _ _ _ _ _ _ _ _ _ _ _ _ _ _ _ _ _ _ _ _ _ _ _ _ _ _ _ _ _ _ _ _ _ _ _ _ _ _ _ _ _ _ _ _ _ _ _ _ _ _ _ _ _ _ _ _ _ _ _ _ _ _ _ _ _ _ _ _ _ _ _ _ _ _ _ _ _ _ _ _ _ _ _ _ _ _ _ w t2 s.sb (unhide HT2).1 _ w.heap.size TB OB PB cs vs ms (unhide HBj) (by have := (unhide HT2).2.2.1; omega) _ ?_
          intro v152 v153 v154 v155 v156 v157 v158 v159 v160 v161 W' s' d hB' e1 e2 e3 e4 hd'
          have HBk := hide hB'
          have HFN := hide (And.intro (e1.trans (unhide HT2).1) ((unhide HN2).tick (unhide HP) d (by rw [(unhide HT2).2.2.1]; exact tm_step (unhide HN).tm hd') e2 e3 e4))
          clear hB' e1 e2 e3 e4
          go_wp2
          go_roundw
          case rel => exact ⟨i + 1, s', vs, ms, by omega, by go_num, unhide HBk, (unhide HFN).2, (unhide HFN).1⟩
          case measure => simp [intOf]; omega
        · have h31 : ¬ (r3 : Int) = 0 := by omega
          go_wp2
          go_roundw
          case rel => exact ⟨i + 1, t2, vs, ms, by omega, by go_num, unhide HBj, (unhide HN2), (unhide HT2).1⟩
          case measure => simp [intOf]; omega
      · rw [hA] at hadm
        simp only [] at hadm
        have HADM := hide hadm
        clear hadm hA
        have HBB := hide (And.intro hb1 hb2)
        clear hb1 hb2
        go_wp2_with (first | (go_at_call 23; refine (class_any c _ hc).mono ?_; rintro e wx ⟨rfl, rfl⟩) | (go_at_call 24; refine (org_any o _ ho).mono ?_; rintro e wx ⟨rfl, rfl⟩) | (go_at_call 25; refine (tenant_any x _ hx).mono ?_; rintro e wx ⟨rfl, rfl⟩))
        refine (unhide HADM).mono ?_
        rintro e wf ⟨rfl, t2, hw2, hl2, ht2, hv2⟩
        have hBf := (unhide HBe).went hw2
        have hAn := Blk.made hBf.way.at_ #[.int .i64 204, .int .i64 0, .int .i64 0] 61
        have hBg := hBf.below (Below.alloc1 wf (.cells #[.int .i64 204, .int .i64 0, .int .i64 0] 61))
        have hlv := st_level t2 (Sl.classW c) (orgW o) [] _ hBg.way.at_
        have hokv : OkV t2.lv := IsSl.core hBf.way.at_ |>.ok
        have hpass := (unhide HN).through (t' := t2) (unhide HP) c o x Q hc ho hx hQ1 hQ2 hl2 ht2 hokv hv2 (unhide HBB).1 (unhide HBB).2
        have HPS := hide hpass.1
        obtain ⟨LB, hLB⟩ : ∃ LB, LB = LA + Q * 1000000000 := ⟨_, rfl⟩
        have eLev : levOf t2.lv (c, orgW o, []) = LB := by rw [hpass.2, unhide HLA, hLB]
        have eL : (LA : Int) + (Q : Int) * 1000000000 = (LB : Int) := by omega
        have hLBb : LB ≤ 2000000000000000 := by omega
        clear hpass hLB
        rw [levelA_org _ c o hc, hw2.sb.trans htsb, eLev] at hlv
        have HBg := hide hBg; have HAn := hide hAn; have HLV := hide hlv
        have HT2 := hide (And.intro (hw2.sb.trans htsb) (And.intro hl2 (And.intro ht2 hv2)))
        clear hBf hAn hBg hlv hw2 hl2 ht2 hv2 hokv eLev HBe HADM
        go_wp2_with (first | (go_at_call 23; refine (class_any c _ hc).mono ?_; rintro e wx ⟨rfl, rfl⟩) | (go_at_call 24; refine (org_any o _ ho).mono ?_; rintro e wx ⟨rfl, rfl⟩) | (go_at_call 25; refine (tenant_any x _ hx).mono ?_; rintro e wx ⟨rfl, rfl⟩))
        refine (unhide HLV).mono ?_
        rintro e wg ⟨rfl, hwg⟩
        have hBh := (unhide HBg).went hwg
        have hAh := (unhide HAn).went hwg
        have hnow := st_now t2 wg hBh.way.at_
        rw [(unhide HT2).1] at hnow
        have HBh := hide hBh; have HAh := hide hAh; have HNOW := hide hnow
        clear hBh hAh hnow hwg HBg HAn HLV
        go_wp2_with fail
        refine (unhide HNOW).mono ?_
        rintro e wh ⟨rfl, hwh⟩
        have hBi := (unhide HBh).went hwh
        have hAi := ((unhide HAh).went hwh).alloc (.cells #[.int .i64 (t2.tm : Nat), .int .i64 Q] 68)
        have hMo := Blk.made hBi.way.at_ #[.int .i64 (t2.tm : Nat), .int .i64 Q] 68
        have hBm : BagM w t2 (wh.alloc (.cells #[.int .i64 (t2.tm : Nat), .int .i64 Q] 68)) w.heap.size TB OB wh.heap.size PB cs vs ms (t2.tm, Q) := ⟨hBi.below (Below.alloc1 _ _), hMo, fun j e => by have := hBi.lt e; omega, by have := hBi.ten.lt; omega, by have := hBi.org.lt; omega⟩
        have n0 := hAi.cell 0 _ rfl
        have n1 := hAi.cell 1 _ rfl
        have HBm := hide hBm
        have hnx := hide (next_any 3 w.heap.size w.heap.size _ hBm.bag.dice (by omega) (by omega))
        clear hBi hAi hMo hBm hwh HBh HAh HNOW
        go_wp2_with fail
        clear hnx n0 n1
        refine bd_reg22 _ _ _ _ _ _ _ _ _ _ _ _ _ _ _ _ _ _ _ _ _ _ _ _ _ _ _ _ _ _ _ _ _ _ _ _ _ _ _ _ _ _ _ _ _ _ _ _ _ _ _ _ _ _ _ _ _ _ _ _ _ _ _ _ _ _ _ _ _ _ _ _ _ _ _ _ _ _ _ _ _ _ _ _ _ _ _ _ _ _ _ _ _ _ _ _ _ _ _ _ _ _ _ _ _ _ _ _ _ _ _ _ _ _ _ _ _ _ _ _ _ _ _ _ _ _ _ _ _ _ _ _ _ _ _ _ _ _ _ _ _ _ _ _ _ _ _ _ _ _ _ _ _ _ _ _ _ _ _ _ _ _ _ _ _ _ _ _ _ _ _ _ _ _ _ _ _ _ _ _ _ _ _ _ _ _ _ _ _ _ _ _ _ _ _ _ _ _ _ _ _ _ _ _ _ _ w t2 _ w.heap.size TB OB wh.heap.size PB cs vs ms t2.tm Q c o x hc ho hx (unhide HBm) (Nat.le_trans ((unhide HN).len _) (by omega)) _ ?_
        intro v100 v101 v102 v103 v104 v105 v106 v107 v108 v109 v110 v111 v112 v113 v114 v115 W1 y1 hB1
        have HB1 := hide hB1
        clear hB1 HBm
        go_wp2_with fail
        refine bd_reg23 _ _ _ _ _ _ _ _ _ _ _ _ _ _ _ _ _ _ _ _ _ _ _ _ _ _ _ _ _ _ _ _ _ _ _ _ _ _ _ _ _ _ _ _ _ _ _ _ _ _ _ _ _ _ _ _ _ _ _ _ _ _ _ _ _ _ _ _ _ _ _ _ _ _ _ _ _ _ _ _ _ _ _ _ _ _ _ _ _ _ _ _ _ _ _ _ _ _ _ _ _ _ _ _ _ _ _ _ _ _ _ _ _ _ _ _ _ _ _ _ _ _ _ _ _ _ _ _ _ _ _ _ _ _ _ _ _ _ _ _ _ _ _ _ _ _ _ _ _ _ _ _ _ _ _ _ _ _ _ _ _ _ _ _ _ _ _ _ _ _ _ _ _ _ _ _ _ _ _ _ _ _ _ _ _ _ _ _ _ _ _ _ _ _ _ _ _ _ _ _ _ _ _ _ _ _ _ w t2 _ w.heap.size TB OB wh.heap.size PB cs _ _ t2.tm Q c o x hc ho hx (unhide HB1) (by rw [setAt_ne _ _ (by omega)]; exact Nat.le_trans ((unhide HN).len _) (by omega)) _ ?_
        intro v116 v117 v118 v119 v120 v121 v122 v123 v124 v125 v126 v127 W2 y2 hB2
        rw [setAt_ne ms _ (show 8 + (o * 2 + c) ≠ o * 4 + x * 2 + c by omega), ((unhide HT2).2.2.1 : t2.tm = t.tm)] at hB2
        obtain ⟨vs2, hvs2⟩ : ∃ v, v = setAt (setAt vs (o * 4 + x * 2 + c) y1) (8 + (o * 2 + c)) y2 := ⟨_, rfl⟩
        obtain ⟨ms2, hms2⟩ : ∃ m, m = setAt (setAt ms (o * 4 + x * 2 + c) (ms (o * 4 + x * 2 + c) ++ [(t.tm, Q)])) (8 + (o * 2 + c)) (ms (8 + (o * 2 + c)) ++ [(t.tm, Q)]) := ⟨_, rfl⟩
        have hps := unhide HPS
        rw [← hms2] at hps hB2
        rw [← hvs2] at hB2
        have HB2 := hide hB2; have HP2 := hide hps
        have hnx := hide (next_any 3 w.heap.size w.heap.size _ hB2.bag.dice (by omega) (by omega))
        clear hB2 HB1 HPS hps hvs2 hms2
        go_wp2_with fail
        refine (unhide hnx).mono ?_
        rintro e wi ⟨hd, hg, r3, hr3, rfl⟩
        have HBj := hide ((unhide HB2).bag.rolled hd hg)
        clear hd hg hnx HB2
        by_cases h30 : r3 = 0
        · subst h30
          go_wp2_with fail
          refine bd_reg31 _ _ _ _ _ _ _ _ _ _ _ _ _ _ _ _ _ _ _ _ _ _ _ _ _ _ _ _ _ _ _ _ _ _ _ _ _ _ _ _ _ _ _ _ _ _ _ _ _ _ _ _ _ _ _ _ _ _ _ _ _ _ _ _ _ _ _ _ _ _ _ _ _ _ _ _ _ _ _ _ _ _ _ _ _ _ _ _ _ _ _ _ _ _ _ _ _ _ _ _ _ _ _ _ _ _ _ _ _ _ _ _ _ _ _ _ _ _ _ _ _ _ _ _ _ _ _ _ _ _ _ _ _ _ _ _ _ _ _ _ _ _ _ _ _ _ _ _ _ _ _ _ _ _ _ _ _ _ _ _ _ _ _ _ _ _ _ _ _ _ _ _ _ _ _ _ _ _ _ _ _ _ _ _ _ _ _ _ _ _ _ _ _ _ _ _ _ _ _ _ _ _ _ _ _ _ _ _ _ w t2 s.sb (unhide HT2).1 _ w.heap.size TB OB PB cs vs2 ms2 (unhide HBj) (by have := (unhide HT2).2.2.1; omega) _ ?_
          intro v152 v153 v154 v155 v156 v157 v158 v159 v160 v161 W' s' d hB' e1 e2 e3 e4 hd'
          have HBk := hide hB'
          have HFN := hide (And.intro (e1.trans (unhide HT2).1) ((unhide HP2).tick (unhide HP) d (by rw [(unhide HT2).2.2.1]; exact tm_step (unhide HN).tm hd') e2 e3 e4))
          clear hB' e1 e2 e3 e4
          go_wp2
          go_roundw
          case rel => exact ⟨i + 1, s', vs2, ms2, by omega, by go_num, unhide HBk, (unhide HFN).2, (unhide HFN).1⟩
          case measure => simp [intOf]; omega
        · have h31 : ¬ (r3 : Int) = 0 := by omega
          go_wp2
          go_roundw
          case rel => exact ⟨i + 1, t2, vs2, ms2, by omega, by go_num, unhide HBj, (unhide HP2), (unhide HT2).1⟩
          case measure => simp [intOf]; omega
    · have hii : ¬ (i : Int) < 60 := by omega
      go_wp2_with fail
      go_loopw [21] (fun v21 wr => ∃ c : Nat, c ≤ 2 ∧ v21 = .int .i64 c ∧ Bag w t wr w.heap.size TB OB PB cs vs ms) (fun v21 _ => 2 - (intOf v21).toNat)
      case atStart => exact ⟨0, by omega, rfl, unhide HB⟩
      case round =>
        obtain ⟨c, hc2, rfl, hbag⟩ := hrel
        have HBc := hide hbag
        clear hbag HB
        by_cases hc : c < 2
        · have hci : (c : Int) < 2 := by omega
          go_wp2_with fail
          go_loopw [22] (fun v22 wr => ∃ o : Nat, o ≤ 2 ∧ v22 = .int .i64 o ∧ Bag w t wr w.heap.size TB OB PB cs vs ms) (fun v22 _ => 2 - (intOf v22).toNat)
          case atStart => exact ⟨0, by omega, rfl, unhide HBc⟩
          case round =>
            obtain ⟨o, ho2, rfl, hbag⟩ := hrel
            have HBo := hide hbag
            clear hbag HBc
            by_cases ho : o < 2
            · have hoi : (o : Int) < 2 := by omega
              go_wp2_with (first
                | (refine wpList_load_mid rfl 32 (.tmp 4) rfl PB 0 rfl cs _ ((unhide HBo).plan.range) Tryz.underlying32 rfl ?_ ?_; (rw [hlen]; exact plan_size)))
              refine ((unhide HF).limits c o 0 _ hc ho (by omega)).mono ?_
              rintro e wl ⟨rfl, hbl⟩
              obtain ⟨lx, hlx⟩ : ∃ y, y = limTen p c o 0 := ⟨_, rfl⟩
              obtain ⟨la, hla⟩ : ∃ y, y = limOrg p c o := ⟨_, rfl⟩
              rw [← hlx, ← hla]
              have okx : OkLim lx := by rw [hlx]; exact limTen_ok (unhide HP) c o 0 hc
              have oka : OkLim la := by rw [hla]; exact limOrg_ok (unhide HP) c o hc
              have hBl := (unhide HBo).below hbl
              obtain ⟨hX4, hA4⟩ := Held.made2 hBl.way.at_ #[.int .i64 lx.rate, .int .i64 lx.burst] #[.int .i64 la.rate, .int .i64 la.burst] 27 27
              have hBv := hBl.below ((Below.alloc1 wl (.cells #[.int .i64 lx.rate, .int .i64 lx.burst] 27)).alloc (by simp) (.cells #[.int .i64 la.rate, .int .i64 la.burst] 27))
              obtain ⟨V, hV⟩ : ∃ V, V = (wl.alloc (.cells #[.int .i64 lx.rate, .int .i64 lx.burst] 27)).alloc (.cells #[.int .i64 la.rate, .int .i64 la.burst] 27) := ⟨_, rfl⟩
              rw [← hV] at hBv hX4 hA4
              have hj : o * 2 + c < 4 := by omega
              have c0 := hBv.org.cell (o * 2 + c) (vs (8 + (o * 2 + c))) (org_at _ _ hj)
              have hVl : wl.heap.size + 1 < V.heap.size := hA4.lt
              have a0 := hA4.at_ 0 _ rfl
              have a1 := hA4.at_ 1 _ rfl
              have hwi := within_any (ms (8 + (o * 2 + c))) (vs (8 + (o * 2 + c))) la.rate la.burst V.drew (hBv.drew.own (8 + (o * 2 + c))).row (Nat.le_trans ((unhide HN).len _) (by omega)) oka.1.2 oka.2.2 ((unhide HN).times (by omega) (by omega)) ((unhide HN).cost _) (by rw [hla]; exact ((unhide HN).org c o hc ho).fits)
              generalize hvj : vs (8 + (o * 2 + c)) = vj at c0 hwi
              have HWI := hide hwi; have HBv := hide hBv; have HV := hide hV; have HVJ := hide hvj
              have ho1 : (o : Int) < 2 := by omega
              have hc1 : (c : Int) < 2 := by omega
              have ho0 : (0 : Int) ≤ (o : Int) := by omega
              have hc0 : (0 : Int) ≤ (c : Int) := by omega
              have hzz0 : True := trivial
              clear hzz0
              clear hwi hBv hV hBl hX4 hA4 hlx hla hbl hvj HBo
              go_wp2_with fail
              rw [← unhide HV]
              go_region_held3 (fun w' => w'.cell? ⟨OB, o * 2 + c, none⟩ = some vj ∧ w'.cell? ⟨wl.heap.size + 1, 0, none⟩ = some (.int .i64 la.rate) ∧ w'.cell? ⟨wl.heap.size + 1, 1, none⟩ = some (.int .i64 la.burst)) (go_keep)
                ((go_at_call 32; refine (unhide HWI).mono ?_; rintro e wm ⟨rfl, hbm⟩; have HBmorg := hide ((unhide HBv).drew.below hbm); have y0 : wm.cell? ⟨OB, o * 2 + c, none⟩ = some vj := (((unhide HBv).drew.below hbm).org.cell (o * 2 + c) vj (by rw [← unhide HVJ]; exact org_at _ _ hj)); have y1 : wm.cell? ⟨wl.heap.size + 1, 0, none⟩ = some (.int .i64 la.rate) := ((hbm.cell (p := ⟨wl.heap.size + 1, 0, none⟩) (show wl.heap.size + 1 < V.drew.heap.size by show _ < V.heap.size; omega)).trans a0); have y2 : wm.cell? ⟨wl.heap.size + 1, 1, none⟩ = some (.int .i64 la.burst) := ((hbm.cell (p := ⟨wl.heap.size + 1, 1, none⟩) (show wl.heap.size + 1 < V.drew.heap.size by show _ < V.heap.size; omega)).trans a1); clear hbm))
              clear y0 y1 y2 a0 a1 c0 HV HWI HBv HVJ hVl
              go_wp2_with fail
              go_loopw [26] (fun v26 wr => ∃ x : Nat, x ≤ 2 ∧ v26 = .int .i64 x ∧ Bag w t wr w.heap.size TB OB PB cs vs ms) (fun v26 _ => 2 - (intOf v26).toNat)
              case atStart => exact ⟨0, by omega, rfl, unhide HBmorg⟩
              case round =>
                obtain ⟨x, hx2, rfl, hbag⟩ := hrel
                have HBx := hide hbag
                clear hbag HBmorg
                by_cases hx : x < 2
                · have hxi : (x : Int) < 2 := by omega
                  go_wp2_with (first
                    | (refine wpList_load_mid rfl 32 (.tmp 4) rfl PB 0 rfl cs _ ((unhide HBx).plan.range) Tryz.underlying32 rfl ?_ ?_; (rw [hlen]; exact plan_size)))
                  refine ((unhide HF).limits c o x _ hc ho (by omega)).mono ?_
                  rintro e wl ⟨rfl, hbl⟩
                  obtain ⟨lx, hlx⟩ : ∃ y, y = limTen p c o x := ⟨_, rfl⟩
                  obtain ⟨la, hla⟩ : ∃ y, y = limOrg p c o := ⟨_, rfl⟩
                  rw [← hlx, ← hla]
                  have okx : OkLim lx := by rw [hlx]; exact limTen_ok (unhide HP) c o x hc
                  have oka : OkLim la := by rw [hla]; exact limOrg_ok (unhide HP) c o hc
                  have hBl := (unhide HBx).below hbl
                  obtain ⟨hX4, hA4⟩ := Held.made2 hBl.way.at_ #[.int .i64 lx.rate, .int .i64 lx.burst] #[.int .i64 la.rate, .int .i64 la.burst] 27 27
                  have hBv := hBl.below ((Below.alloc1 wl (.cells #[.int .i64 lx.rate, .int .i64 lx.burst] 27)).alloc (by simp) (.cells #[.int .i64 la.rate, .int .i64 la.burst] 27))
                  obtain ⟨V, hV⟩ : ∃ V, V = (wl.alloc (.cells #[.int .i64 lx.rate, .int .i64 lx.burst] 27)).alloc (.cells #[.int .i64 la.rate, .int .i64 la.burst] 27) := ⟨_, rfl⟩
                  rw [← hV] at hBv hX4 hA4
                  have hj : o * 4 + x * 2 + c < 8 := by omega
                  have c0 := hBv.ten.cell (o * 4 + x * 2 + c) (vs (o * 4 + x * 2 + c)) (ten_at _ _ hj)
                  have hVl : wl.heap.size + 1 < V.heap.size := hA4.lt
                  have a0 := hX4.at_ 0 _ rfl
                  have a1 := hX4.at_ 1 _ rfl
                  have hwi := within_any (ms (o * 4 + x * 2 + c)) (vs (o * 4 + x * 2 + c)) lx.rate lx.burst V.drew (hBv.drew.own (o * 4 + x * 2 + c)).row (Nat.le_trans ((unhide HN).len _) (by omega)) okx.1.2 okx.2.2 ((unhide HN).times (by omega) (by omega)) ((unhide HN).cost _) (by rw [hlx]; exact ((unhide HN).ten c o x hc ho hx).fits)
                  generalize hvj : vs (o * 4 + x * 2 + c) = vj at c0 hwi
                  have HWI := hide hwi; have HBv := hide hBv; have HV := hide hV; have HVJ := hide hvj
                  have ho1 : (o : Int) < 2 := by omega
                  have hc1 : (c : Int) < 2 := by omega
                  have ho0 : (0 : Int) ≤ (o : Int) := by omega
                  have hc0 : (0 : Int) ≤ (c : Int) := by omega
                  have hx1 : (x : Int) < 2 := by omega
                  have hx0 : (0 : Int) ≤ (x : Int) := by omega
                  clear hwi hBv hV hBl hX4 hA4 hlx hla hbl hvj HBx
                  go_wp2_with fail
                  rw [← unhide HV]
                  go_region_held3 (fun w' => w'.cell? ⟨TB, o * 4 + x * 2 + c, none⟩ = some vj ∧ w'.cell? ⟨wl.heap.size, 0, none⟩ = some (.int .i64 lx.rate) ∧ w'.cell? ⟨wl.heap.size, 1, none⟩ = some (.int .i64 lx.burst)) (go_keep)
                    ((go_at_call 32; refine (unhide HWI).mono ?_; rintro e wm ⟨rfl, hbm⟩; have HBmten := hide ((unhide HBv).drew.below hbm); have y0 : wm.cell? ⟨TB, o * 4 + x * 2 + c, none⟩ = some vj := (((unhide HBv).drew.below hbm).ten.cell (o * 4 + x * 2 + c) vj (by rw [← unhide HVJ]; exact ten_at _ _ hj)); have y1 : wm.cell? ⟨wl.heap.size, 0, none⟩ = some (.int .i64 lx.rate) := ((hbm.cell (p := ⟨wl.heap.size, 0, none⟩) (show wl.heap.size < V.drew.heap.size by show _ < V.heap.size; omega)).trans a0); have y2 : wm.cell? ⟨wl.heap.size, 1, none⟩ = some (.int .i64 lx.burst) := ((hbm.cell (p := ⟨wl.heap.size, 1, none⟩) (show wl.heap.size < V.drew.heap.size by show _ < V.heap.size; omega)).trans a1); clear hbm))
                  clear y0 y1 y2 a0 a1 c0 HV HWI HBv HVJ hVl
                  go_wp2
                  go_roundw
                  case rel => exact ⟨x + 1, by omega, by go_num, unhide HBmten⟩
                  case measure => simp [intOf]; omega
                · have hxi : ¬ (x : Int) < 2 := by omega
                  go_wp2
                  go_roundw
                  case rel => exact ⟨o + 1, by omega, by go_num, unhide HBx⟩
                  case measure => simp [intOf]; omega
            · have hoi : ¬ (o : Int) < 2 := by omega
              go_wp2
              go_roundw
              case rel => exact ⟨c + 1, by omega, by go_num, unhide HBo⟩
              case measure => simp [intOf]; omega
        · have hci : ¬ (c : Int) < 2 := by omega
          go_wp2
          go_ret
          exact ⟨rfl, (unhide HBc).way.below⟩

end Go.Proofs.YthmhfilkgggagaaGreatDoor
