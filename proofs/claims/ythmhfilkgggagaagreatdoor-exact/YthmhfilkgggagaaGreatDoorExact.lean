/-
  Exact: the walk.
-/
import Derived.Test.YthmhfilkgggagaaGreatDoorExA
import Derived.Deep.CutRange
namespace Go.Proofs.YthmhfilkgggagaaGreatDoor
open Go.RowKit Go.Maps Go.Sort

theorem too_much (l : List (Sl.Subj × Sl.Lim)) (lv : Lv) (k : Kb) (Q : Nat) (h : (limK l (k.1, k.2.1, [])).burst < Q ∨ (limK l k).burst < Q) : admitS l lv k Q = ((413, 0, 0), lv) := by
  unfold admitS
  rw [if_pos h]

theorem retry_at (M RT : Nat) (h : RT = (M + 1000000000 - 1) / 1000000000) (hM : M ≤ 30000000050) : ((M : Int) + 1000000000 - 1).tdiv 1000000000 = (RT : Int) ∧ RT ≤ 40000000000 := by
  have e : ((1000000000 : Nat) : Int) = 1000000000 := rfl
  have h1 := (retry_eq M 1000000000 (by omega)).2
  rw [e, ← h] at h1
  exact ⟨h1, by rw [h]; exact Nat.le_trans (Nat.div_le_self _ _) (by omega)⟩

set_option maxRecDepth 100000 in
set_option maxHeartbeats 40000000 in
theorem exact_any (cp : Option Addr) (cn cc : Nat) (qi : Int) (w : World) (hE : Env w) (hqi : -9223372036854775808 ≤ qi ∧ qi ≤ 9223372036854775807)
    (hn : cn ≤ 281474976710656) (hcode : 0 < cn → ∃ a, cp = some a ∧ a.block < w.heap.size ∧ ∀ i, i < cn → ∃ x : Int, w.cell? (a.add i) = some (.int .i64 x) ∧ -9223372036854775808 ≤ x ∧ x ≤ 9223372036854775807) :
    Calls Tryz.prog 9 #[.slice cp cn cc, .int .i64 qi] w fun e w' => e = .returned (.bool true) ∧ Below w.heap.size w w' := by
  have hd0 := dice_laid (Below.refl w.heap.size w) cp cn cc hn hcode
  have hpl := hide (planned_any w.heap.size w.heap.size _ hd0)
  have hz := hE.size
  have HE := hide hE
  clear hd0 hcode hE
  go_enter Tryz.func9, Tryz.ntmps9
  go_wp2_with fail
  refine (unhide hpl).mono ?_
  rintro e w1 ⟨hd1, hg1, p, hp, rfl⟩
  have hb1 : Below w.heap.size w w1 := plan_taken hg1
  obtain ⟨wz, hst, hbz, hrz, hzz⟩ := plan_laid p w1
  have hbz0 := hb1.trans (hbz.mono hb1.size)
  have hfn := plan_f p hp
  have hEz := ((unhide HE).below hb1 hz).below hbz (Nat.le_trans hz hb1.size)
  have hdz : Dice wz w.heap.size w.heap.size := hd1.only (Only.below (S := fun _ => False) hbz) (fun h => h) (fun k h => h.elim)
  obtain ⟨cs, hcs⟩ : ∃ cs : List Value, pc p = cs.toArray := ⟨(pc p).toList, rfl⟩
  rw [hcs] at hst hfn hrz ⊢
  simp only [] at hst hfn hrz
  have HP := hide hp; have HF := hide hfn; have HR := hide hrz; have HBZ := hide hbz0; have HEZ := hide hEz; have HDZ := hide hdz
  have hlen : cs.length = 32 := hfn.len
  have hs1 := hb1.size
  have hz1 : w1.heap.size < wz.heap.size := by omega
  have hs0 : w.heap.size ≤ wz.heap.size := by omega
  have hdw := hdz.lt
  clear hzz hp hd1 hg1 hb1 hbz hrz hpl hcs hfn hbz0 hEz HE hdz
  go_wp2_with (first
    | (refine wpList_load_mid rfl 32 (.tmp 6) rfl w1.heap.size 0 rfl cs _ (unhide HR) Tryz.underlying32 rfl ?_ ?_; (rw [hlen]; exact plan_size)))
  refine ((unhide HF).made wz (unhide HEZ)).mono ?_
  rintro e w3 ⟨s, rfl, hat, hb3, hft, hsl, hst0, hsv⟩
  have H1 := hide (Below.range hb3 (by omega) (unhide HR))
  have HW : Hid (Way w s w3) := hide ⟨hat, (unhide HEZ).below hb3 (by omega), (unhide HBZ).trans (hb3.mono hs0), hz, fun k hk => Nat.le_trans hs0 (hft k hk)⟩
  have HD3 := hide ((unhide HDZ).only (Only.below (S := fun _ => False) hb3) (fun h => h) (fun k h => h.elim))
  have HDO : Hid (¬ s.foot w.heap.size) := hide (fun hk => by have := hft _ hk; omega)
  have HS := hide (And.intro hsl (And.intro hst0 hsv))
  clear hat hb3 hft hsl hst0 hsv HR HBZ HEZ hst HDZ
  go_wp2_with (first
    | (refine wpList_load_mid rfl 32 (.tmp 6) rfl w1.heap.size 0 rfl cs _ (unhide H1) Tryz.underlying32 rfl ?_ ?_; (rw [hlen]; exact plan_size)))
  refine ((unhide HF).limits 0 0 1 _ (by omega) (by omega) (by omega)).mono ?_
  rintro e w4 ⟨rfl, hb4⟩
  obtain ⟨lx, hlx⟩ : ∃ x, x = limTen p 0 0 1 := ⟨_, rfl⟩
  obtain ⟨la, hla⟩ : ∃ x, x = limOrg p 0 0 := ⟨_, rfl⟩
  rw [← hlx, ← hla]
  have okx : OkLim lx := by rw [hlx]; exact limTen_ok (unhide HP) 0 0 1 (by omega)
  have oka : OkLim la := by rw [hla]; exact limOrg_ok (unhide HP) 0 0 (by omega)
  obtain ⟨hl1, hl2, hl3⟩ := unhide HS
  have hk1 : limK s.l (0, orgW 0, []) = la := by rw [hl1, hla]; exact limK_org (holds_self p) (unhide HP) 0 0 (by omega) (by omega)
  have hk2 : limK s.l (0, orgW 0, tenW 1) = lx := by rw [hl1, hlx]; exact limK_ten (holds_self p) (unhide HP) 0 0 1 (by omega) (by omega) (by omega)
  have HK := hide (And.intro hk1 hk2)
  have hW4 := ((unhide HW).step hb4)
  have hD4 := (unhide HD3).only (Only.below (S := fun _ => False) hb4) (fun h => h) (fun k h => h.elim)
  obtain ⟨hX4, hA4⟩ := Held.made2 hW4.at_ #[.int .i64 lx.rate, .int .i64 lx.burst] #[.int .i64 la.rate, .int .i64 la.burst] 27 27
  have hb4' := (Below.alloc1 w4 (.cells #[.int .i64 lx.rate, .int .i64 lx.burst] 27)).alloc (by simp) (.cells #[.int .i64 la.rate, .int .i64 la.burst] 27)
  have x1 := hX4.at_ 1 _ rfl
  have a1 := hA4.at_ 1 _ rfl
  obtain ⟨V4, hV4⟩ : ∃ V, V = (w4.alloc (.cells #[.int .i64 lx.rate, .int .i64 lx.burst] 27)).alloc (.cells #[.int .i64 la.rate, .int .i64 la.burst] 27) := ⟨_, rfl⟩
  rw [← hV4] at hb4'
  have HW4 := hide (hW4.step hb4')
  have HD4 := hide (hD4.only (Only.below (S := fun _ => False) hb4') (fun h => h) (fun k h => h.elim))
  have HV4 := hide hV4
  have hz4 : V4.heap.size = w4.heap.size + 2 := by rw [hV4]; simp
  have HZ4 := hide hz4
  have hw4s : w.heap.size ≤ V4.heap.size := (unhide HW4).below.size
  have bx0 := okx.2.1; have bx1 := okx.2.2; have ba0 := oka.2.1; have ba1 := oka.2.2
  clear hlx hla hk1 hk2 hl1 hl2 hl3 hW4 hD4 hX4 hA4 hb4 hb4' hV4 hz4 HW H1 HD3
  go_upto_if 42 with fail
  go_cut [10] from 42 to 44 (fun v10 wx => ∃ L : Nat, v10 = .int .i64 L ∧ L ≤ lx.burst ∧ L ≤ la.burst ∧ (L = lx.burst ∨ L = la.burst) ∧ wx = (w4.alloc (.cells #[.int .i64 lx.rate, .int .i64 lx.burst] 27)).alloc (.cells #[.int .i64 la.rate, .int .i64 la.burst] 27))
  case first =>
    by_cases hlt : la.burst < lx.burst
    · have qlt : (la.burst : Int) < (lx.burst : Int) := by omega
      go_wp2_with fail
      go_meet
      exact ⟨la.burst, rfl, by omega, by omega, .inr rfl, rfl⟩
    · have qlt : ¬ (la.burst : Int) < (lx.burst : Int) := by omega
      go_wp2_with fail
      go_meet
      exact ⟨lx.burst, rfl, by omega, by omega, .inl rfl, rfl⟩
  case rest =>
    obtain ⟨L, rfl, hLx, hLa, hLor, rfl⟩ := hcut
    have hL1 : 1 ≤ L := by omega
    have hL30 : L ≤ 30 := by omega
    have hB := Blk.made (unhide HW4).at_ #[.string ⟨#[105, 110, 103, 101, 115, 116]⟩, .string ⟨#[97, 99, 109, 101]⟩, .string ⟨(tenW 1).toArray⟩, .int .i64 ((L : Int) + 1)] 65
    have hb5 := Below.alloc1 V4 (.cells #[.string ⟨#[105, 110, 103, 101, 115, 116]⟩, .string ⟨#[97, 99, 109, 101]⟩, .string ⟨(tenW 1).toArray⟩, .int .i64 ((L : Int) + 1)] 65)
    obtain ⟨V5, hV5⟩ : ∃ V, V = V4.alloc (.cells #[.string ⟨#[105, 110, 103, 101, 115, 116]⟩, .string ⟨#[97, 99, 109, 101]⟩, .string ⟨(tenW 1).toArray⟩, .int .i64 ((L : Int) + 1)] 65) := ⟨_, rfl⟩
    rw [← hV5] at hB hb5
    rw [show V4.heap.size = w4.heap.size + 1 + 1 by rw [unhide HZ4]] at hB
    have HW5 := hide ((unhide HW4).step hb5)
    have HD5 := hide ((unhide HD4).only (Only.below (S := fun _ => False) hb5) (fun h => h) (fun k h => h.elim))
    have hdl := (unhide HD4).lt
    have HV5 := hide hV5; have HB5 := hide hB
    have hadm := st_admit s (Sl.classW 0) (orgW 0) (tenW 1) ((L + 1 : Nat) : Int) V5 (unhide HW5).at_
    rw [admA_plan s.l s.lv 0 0 1 _ (by omega) (by omega) (by omega), too_much s.l s.lv (0, orgW 0, tenW 1) _ (by show (limK s.l (0, orgW 0, [])).burst < _ ∨ _; rw [(unhide HK).1, (unhide HK).2]; omega), show ((L + 1 : Nat) : Int) = (L : Int) + 1 by omega] at hadm
    have HADM := hide hadm
    have hBB2 : w.heap.size < w4.heap.size + 1 + 1 := by have := unhide HZ4; omega
    clear hadm hV5 hB hb5
    go_wp2_with (go_at_call 25; refine (tenant_any 1 _ (by omega)).mono ?_; rintro e wx ⟨rfl, rfl⟩)
    rw [← unhide HV4, ← unhide HV5]
    refine (unhide HADM).mono ?_
    rintro e w6 ⟨rfl, t0, hw0, hl0, ht0, hv0⟩
    generalize hBB : w4.heap.size + 1 + 1 = BB at *
    have hW6 := (unhide HW5).went hw0
    have hb6 := Below.alloc1 w6 (.cells #[.int .i64 413, .int .i64 0, .int .i64 0] 61)
    have hN6 := Blk.made hW6.at_ #[.int .i64 413, .int .i64 0, .int .i64 0] 61
    have hB6 := (unhide HB5).went hw0
    have hD6 := (unhide HD5).only hw0.only (unhide HDO) (fun k hk => (unhide HW5).foot k hk)
    have hdo : ¬ t0.foot w.heap.size := fun hk => by
      rcases hw0.foot _ hk with h3 | h3
      · exact unhide HDO h3
      · have := (unhide HD5).lt; omega
    obtain ⟨V6, hV6⟩ : ∃ V, V = w6.alloc (.cells #[.int .i64 413, .int .i64 0, .int .i64 0] 61) := ⟨_, rfl⟩
    rw [← hV6] at hb6 hN6
    have hEx : Ex w t0 V6 w.heap.size BB w6.heap.size _ #[.int .i64 413, .int .i64 0, .int .i64 0] :=
      ⟨hW6.step hb6, hD6.only (Only.below (S := fun _ => False) hb6) (fun h => h) (fun k h => h.elim), hdo, hB6.only (Only.below (S := fun _ => False) hb6) (fun h => h), hN6, ⟨by omega, by have := hD6.lt; omega, by have := hB6.lt; omega⟩, by omega, by have := hW6.below.size; omega⟩
    have HV6 := hide hV6
    have HT0 := hide (And.intro hw0.sb (And.intro hl0 (And.intro (ht0.trans (unhide HS).2.1) (hv0.trans (unhide HS).2.2))))
    have b0 := hB6.cell 0 _ rfl
    have b1 := hB6.cell 1 _ rfl
    have b2 := hB6.cell 2 _ rfl
    have b3 := hB6.cell 3 _ rfl
    have bf := hB6.live 3
    have hbl : BB < w6.heap.size := hB6.lt
    have hE7 := hEx.setBig 3 (.int .i64 L)
    have hV7 : V6.setCell ⟨BB, 3, none⟩ (.int .i64 L) = (w6.setCell ⟨BB, 3, none⟩ (.int .i64 L)).alloc (.cells #[.int .i64 413, .int .i64 0, .int .i64 0] 61) := by rw [hV6]; exact World.setCell_alloc_past _ _ _ _ hbl
    have eb : ((#[.string ⟨#[105, 110, 103, 101, 115, 116]⟩, .string ⟨#[97, 99, 109, 101]⟩, .string ⟨(tenW 1).toArray⟩, .int .i64 ((L : Int) + 1)] : Array Value).setIfInBounds 3 (.int .i64 L)) = #[.string ⟨#[105, 110, 103, 101, 115, 116]⟩, .string ⟨#[97, 99, 109, 101]⟩, .string ⟨(tenW 1).toArray⟩, .int .i64 L] := rfl
    rw [eb] at hE7
    have hadm := st_admit t0 (Sl.classW 0) (orgW 0) (tenW 1) (L : Nat) _ hE7.way.at_
    obtain ⟨hs0', hl0', ht0', hv0'⟩ := unhide HT0
    rw [admA_plan t0.l t0.lv 0 0 1 _ (by omega) hL1 (by omega), hv0', admit_first t0.l (0, orgW 0, tenW 1) _ (by show _ ≤ (limK t0.l (0, orgW 0, [])).burst; rw [hl0', (unhide HK).1]; omega) (by rw [hl0', (unhide HK).2]; omega) (by show 0 < (limK t0.l (0, orgW 0, [])).rate; rw [hl0', (unhide HK).1]; exact oka.1.1) (by rw [hl0', (unhide HK).2]; exact okx.1.1), hs0', two_put _ _ (by intro e; exact tenW_ne 1 (congrArg (·.2.2) e))] at hadm
    have HE7 := hide hE7; have HADM := hide hadm; have HV7 := hide hV7
    clear hV7 hadm hE7 hEx eb hV6 hb6 hN6 hB6 hD6 hdo hW6 hw0 hl0 ht0 hv0 hs0' hl0' ht0' hv0' HW4 HW5 HD4 HD5 HB5 HV4 HV5 x1 a1 hBB
    go_wp2_with fail
    rw [← unhide HV7]
    refine (unhide HADM).mono ?_
    rintro e w8 ⟨rfl, t1, hw1, hl1, ht1, hv1⟩
    have hE8 := (unhide HE7).went hw1
    have n0' := hE8.ans.cell 0 _ rfl
    have n1' := hE8.ans.cell 1 _ rfl
    have n2' := hE8.ans.cell 2 _ rfl
    have f0' := hE8.ans.live 0
    have f1' := hE8.ans.live 1
    have f2' := hE8.ans.live 2
    have hE9 := hE8.setAns3 rfl (.int .i64 204) (.int .i64 0) (.int .i64 0)
    have HE9 := hide hE9
    have HT1 := hide (And.intro (hw1.sb.trans (unhide HT0).1) (And.intro (hl1.trans (unhide HT0).2.1) (And.intro (ht1.trans (unhide HT0).2.2.1) hv1)))
    have hlim : (0, orgW 0, ([] : List UInt8)) ≠ (0, orgW 0, tenW 1) := fun e => tenW_ne 1 (congrArg (·.2.2) e).symm
    clear hE8 hE9 hw1 hl1 ht1 hv1 HE7 HADM HT0 b0 b1 b2 b3 bf HV6 HV7
    generalize hNB : w6.heap.size = NB at *
    clear hNB
    go_wp2_with fail
    go_loopw [14] (fun v14 wr => ∃ (i : Nat) (t : St) (ans : Array Value), i ≤ 3 ∧ v14 = .int .i64 i ∧ Ex w t wr w.heap.size BB NB #[.string ⟨#[105, 110, 103, 101, 115, 116]⟩, .string ⟨#[97, 99, 109, 101]⟩, .string ⟨(tenW 1).toArray⟩, .int .i64 L] ans ∧ ans.size = 3 ∧ t.sb = s.sb ∧ t.l = s.l ∧ t.tm ≤ i * 100000000 ∧ t.lv.length ≤ 2 ∧ levOf t.lv (0, orgW 0, []) ≤ L * 1000000000 ∧ levOf t.lv (0, orgW 0, tenW 1) ≤ L * 1000000000) (fun v14 _ => 3 - (intOf v14).toNat)
    case atStart =>
      obtain ⟨hs, hl, ht, hv⟩ := unhide HT1
      exact ⟨0, t1, _, by omega, rfl, unhide HE9, rfl, hs, hl, by omega, by rw [hv]; simp, by rw [hv, levOf_two]; simp, by rw [hv, levOf_two]; simp⟩
    case round =>
      obtain ⟨i, t, ans, hi, rfl, hx, hsz, htsb, htl, httm, htlen, hlva, hlvb⟩ := hrel
      have hnx := hide (next_any 4 w.heap.size w.heap.size wr hx.dice (by omega) (by omega))
      have HXX := hide hx
      clear hx HE9
      go_wp2_with fail
      refine (unhide hnx).mono ?_
      rintro e wa ⟨hda, hga, r, hr, rfl⟩
      have HXa := hide ((unhide HXX).rolled hda hga)
      clear hda hga HXX hnx n0' n1' n2' f0' f1' f2'
      by_cases hir : i < r
      · have hii : (i : Int) < (r : Int) := by omega
        have hnx := hide (next_any 100000000 w.heap.size w.heap.size wa (unhide HXa).dice (by omega) (by omega))
        go_wp2_with fail
        refine (unhide hnx).mono ?_
        rintro e wb ⟨hdb, hgb, d, hd, rfl⟩
        have HXb := hide ((unhide HXa).rolled hdb hgb)
        have htk := st_tick_ok t d wb (unhide HXb).way.at_ (by omega)
        rw [htsb] at htk
        have HTK := hide htk
        clear hdb hgb htk hnx HXa
        go_wp2_with fail
        refine (unhide HTK).mono ?_
        rintro e wc ⟨rfl, t', hw2, hl2, ht2, hv2⟩
        have hokv : OkV t.lv := IsSl.core (unhide HXb).way.at_ |>.ok
        have HXc := hide ((unhide HXb).went hw2)
        have HTT := hide (And.intro (hw2.sb.trans htsb) (And.intro (hl2.trans htl) (And.intro (show t'.tm ≤ (i + 1) * 100000000 by rw [ht2]; omega) (And.intro (show t'.lv.length ≤ 2 by rw [hv2]; exact Nat.le_trans (fallV_len _ _ _) htlen) (And.intro (show levOf t'.lv (0, orgW 0, []) ≤ L * 1000000000 by rw [hv2, levOf_fall hokv]; omega) (show levOf t'.lv (0, orgW 0, tenW 1) ≤ L * 1000000000 by rw [hv2, levOf_fall hokv]; omega))))))
        clear hw2 hl2 ht2 hv2 HXb HTK hokv
        go_wp2
        go_roundw
        case rel => exact ⟨i + 1, t', ans, by omega, by go_num, unhide HXc, hsz, (unhide HTT).1, (unhide HTT).2.1, (unhide HTT).2.2.1, (unhide HTT).2.2.2.1, (unhide HTT).2.2.2.2.1, (unhide HTT).2.2.2.2.2⟩
        case measure => simp [intOf]; omega
      · have hii : ¬ (i : Int) < (r : Int) := by omega
        go_wp2_with (go_at_call 25; refine (tenant_any 1 _ (by omega)).mono ?_; rintro e wx ⟨rfl, rfl⟩)
        refine (pick_any qi L _ hqi.1 hqi.2 (by omega) (by omega)).mono ?_
        rintro e wx ⟨rfl, k, hk, rfl⟩
        obtain ⟨Q, hQ⟩ : ∃ Q, Q = 1 + k := ⟨_, rfl⟩
        have eQ : (1 : Int) + (k : Int) = (Q : Int) := by omega
        have hQ1 : 1 ≤ Q := by omega
        have hQ2 : Q ≤ L := by omega
        have hBq := Blk.made (unhide HXa).way.at_ #[.string ⟨#[105, 110, 103, 101, 115, 116]⟩, .string ⟨#[97, 99, 109, 101]⟩, .string ⟨(tenW 1).toArray⟩, .int .i64 Q] 65
        have hbq := Below.alloc1 wx (.cells #[.string ⟨#[105, 110, 103, 101, 115, 116]⟩, .string ⟨#[97, 99, 109, 101]⟩, .string ⟨(tenW 1).toArray⟩, .int .i64 Q] 65)
        have hXq := (unhide HXa).below hbq
        have hqn : wx.heap.size ≠ NB := by have := (unhide HXa).ans.lt; omega
        have hkl1 : limK t.l (0, orgW 0, []) = la := by rw [htl]; exact (unhide HK).1
        have hkl2 : limK t.l (0, orgW 0, tenW 1) = lx := by rw [htl]; exact (unhide HK).2
        have d1 : Q ≤ (limK t.l (((0, orgW 0, tenW 1) : Kb).1, ((0, orgW 0, tenW 1) : Kb).2.1, [])).burst := by show Q ≤ (limK t.l (0, orgW 0, [])).burst; rw [hkl1]; omega
        have d2 : Q ≤ (limK t.l (0, orgW 0, tenW 1)).burst := by rw [hkl2]; omega
        have r1 : 0 < (limK t.l (((0, orgW 0, tenW 1) : Kb).1, ((0, orgW 0, tenW 1) : Kb).2.1, [])).rate := by show 0 < (limK t.l (0, orgW 0, [])).rate; rw [hkl1]; exact oka.1.1
        have r2 : 0 < (limK t.l (0, orgW 0, tenW 1)).rate := by rw [hkl2]; exact okx.1.1
        have hokv : OkV t.lv := IsSl.core hXq.way.at_ |>.ok
        obtain ⟨M, hM⟩ : ∃ M, M = waitB t.l t.lv (0, orgW 0, tenW 1) Q := ⟨_, rfl⟩
        have hMb : M ≤ 30000000050 := by
          rw [hM]
          refine Nat.le_trans (wait_bound t.l t.lv (0, orgW 0, tenW 1) Q 30000000000 50 d1 d2 ?_ ?_ ?_ ?_) (by omega)
          · show (limK t.l (0, orgW 0, [])).rate ≤ 50; rw [hkl1]; exact oka.1.2
          · rw [hkl2]; exact okx.1.2
          · show levOf t.lv (0, orgW 0, []) ≤ _; omega
          · omega
        obtain ⟨RT, hRT⟩ : ∃ x, x = (M + 1000000000 - 1) / 1000000000 := ⟨_, rfl⟩
        obtain ⟨m1, m2⟩ := admit_roomy t.l t.lv (0, orgW 0, tenW 1) Q d1 d2 htlen M RT hRT hM
        have hadm := st_admit t (Sl.classW 0) (orgW 0) (tenW 1) (Q : Nat) _ hXq.way.at_
        rw [admA_plan t.l t.lv 0 0 1 Q (by omega) hQ1 (by omega), htsb] at hadm
        simp only [] at hadm
        have HBq := hide hBq; have HXq := hide hXq; have HOK := hide hokv
        have HDD := hide (And.intro d1 (And.intro d2 (And.intro r1 r2)))
        clear hk hQ hBq hbq hXq hkl1 hkl2 d1 d2 r1 r2 hokv HXa
        by_cases hM0 : M = 0
        · rw [m1 hM0] at hadm
          have HADM := hide hadm
          clear hadm m1 m2 hM hM0 hRT
          go_wp2_with fail
          refine (unhide HADM).mono ?_
          rintro e wd ⟨rfl, t2, hw2, hl2, ht2, hv2⟩
          have hXd := (unhide HXq).went hw2
          match ans, hsz with
          | ⟨[z0, z1, z2]⟩, _ =>
          have n0 := hXd.ans.cell 0 _ rfl
          have n1 := hXd.ans.cell 1 _ rfl
          have n2 := hXd.ans.cell 2 _ rfl
          have f0 := hXd.ans.live 0
          have f1 := hXd.ans.live 1
          have f2 := hXd.ans.live 2
          have HXd := hide (hXd.setAns3 rfl (.int .i64 204) (.int .i64 0) (.int .i64 0))
          clear hXd hw2 hl2 ht2 hv2 HXq HADM
          go_wp2
          go_ret
          exact ⟨rfl, (unhide HXd).way.below⟩
        · have hMp : 0 < M := by omega
          rw [m2 hMp] at hadm
          simp only [] at hadm
          have HADM := hide hadm; have HM := hide hM; have HRT := hide hRT
          clear hadm m1 m2 hM hM0 hRT
          go_wp2_with fail
          refine (unhide HADM).mono ?_
          rintro e wd ⟨rfl, t2, hw2, hl2, ht2, hv2⟩
          have hXd := (unhide HXq).went hw2
          have hqd := (unhide HBq).went hw2
          match ans, hsz with
          | ⟨[z0, z1, z2]⟩, _ =>
          have n0 := hXd.ans.cell 0 _ rfl
          have n1 := hXd.ans.cell 1 _ rfl
          have n2 := hXd.ans.cell 2 _ rfl
          have f0 := hXd.ans.live 0
          have f1 := hXd.ans.live 1
          have f2 := hXd.ans.live 2
          have nn := hXd.ans.lt
          have hXe := hXd.setAns3 rfl (.int .i64 429) (.int .i64 M) (.int .i64 RT)
          have hqe := ((hqd.far 0 (.int .i64 429) (fun e => hqn e.symm)).far 1 (.int .i64 M) (fun e => hqn e.symm)).far 2 (.int .i64 RT) (fun e => hqn e.symm)
          obtain ⟨d1, d2, r1, r2⟩ := unhide HDD
          have HFIN := hide (And.intro hXe (And.intro hqe (And.intro (hw2.sb.trans htsb) (And.intro (show t2.tm ≤ 300000000 by rw [ht2]; omega) (And.intro (show t2.lv.length ≤ 2 by rw [hv2]; exact htlen) (And.intro (show M = waitB t2.l t2.lv (0, orgW 0, tenW 1) Q by rw [hl2, hv2]; exact unhide HM) (And.intro (show Q ≤ (limK t2.l (((0, orgW 0, tenW 1) : Kb).1, ((0, orgW 0, tenW 1) : Kb).2.1, [])).burst by rw [hl2]; exact d1) (And.intro (show Q ≤ (limK t2.l (0, orgW 0, tenW 1)).burst by rw [hl2]; exact d2) (And.intro (show 0 < (limK t2.l (((0, orgW 0, tenW 1) : Kb).1, ((0, orgW 0, tenW 1) : Kb).2.1, [])).rate by rw [hl2]; exact r1) (show 0 < (limK t2.l (0, orgW 0, tenW 1)).rate by rw [hl2]; exact r2))))))))))
          clear hXd hqd hXe hqe hw2 hl2 ht2 hv2 HXq HADM HBq d1 d2 r1 r2
          go_upto_if 107 with fail
          refine wp_cond_false (by rfl) ?_
          refine wp_skip ?_
          rename_i hK
          obtain ⟨hXe, hqe, f3, f4, f5, f6, d1, d2, r1, r2⟩ := unhide HFIN
          obtain ⟨e1, e2⟩ := retry_at M RT (unhide HRT) hMb
          exact hK _ _ (exact_tail _ _ _ _ _ _ _ _ _ _ _ _ _ _ _ _ _ _ _ _ _ _ _ _ _ _ _ _ _ _ _ _ _ _ _ _ _ _ _ _ _ _ _ _ _ _ _ _ _ _ _ _ _ _ _ _ _ _ _ _ _ _ _ _ _ _ _ _ _ _ _ _ _ _ _ _ _ _ _ _ _ _ _ _ _ _ _ _ _ _ _ _ _ _ _ _ _ _ _ _ _ _ _ _ _ _ _ _ _ _ _ _ _ _ _ _ _ _ _ _ _ _ _ _ _ _ _ _ _ _ _ _ _ _ _ _ _ _ _ _ _ _ _ _ _ _ _ _ _ _ _ _ _ _ _ _ _ _ _ _ _ _ _ _ _ _ _ _ w _ t2 _ _ _ _ _ Q M RT hQ1 (by omega) hMp hMb e1 e2 hXe hqe f3 f4 f5 f6 d1 d2 r1 r2)

end Go.Proofs.YthmhfilkgggagaaGreatDoor
