/-
  readLines: what the lines of a text say, or the number of the first bad one.
-/
import Derived.Test.YthmhfilkgggagaaGreatDoorPlain3
namespace Go.Proofs.YthmhfilkgggagaaGreatDoor
open Go.RowKit Go.Shelf

set_option maxHeartbeats 400000 in
theorem isBlank_any (r : Int) (w : World) :
    Calls Tryz.prog 111 #[.int .i32 r] w fun e w' => e = .returned (.bool (r == 32)) ∧ w' = w := by
  go_enter Tryz.func111, Tryz.ntmps111
  go_wp2
  go_ret
  exact ⟨rfl, rfl⟩

theorem isBlank_enters : ∀ args w, (callFunc 111 args).run Tryz.prog w = .ok (.enter 111 args) w := enters_of Tryz.func111 (by kernel_rfl) rfl

theorem isBlank_pays (w : World) : PredGrows Tryz.prog 111 #[] Sl.blankR w := fun W x _ _ =>
  (isBlank_any x W).mono fun e w' ⟨he, hw⟩ => by
    subst hw
    refine ⟨?_, Below.refl _ _⟩
    rw [he]
    have : ((x : Int) == 32) = Sl.blankR x := by unfold Sl.blankR; rw [Bool.eq_iff_iff]; simp; omega
    rw [this]

theorem addr_add (b o j : Nat) : (⟨b, o, none⟩ : Addr).add j = ⟨b, o + j, none⟩ := by
  unfold Addr.add; split
  · next h => subst h; rfl
  · rfl

theorem fieldsFunc_any (s : ByteArray) (w : World) (hs : s.size ≤ 2000) :
    Calls Tryz.prog 110 #[.string s, .func (.func 111) #[] #[]] w fun e w' => ∃ A fs, datas fs = Sl.fields s.data.toList ∧ e = .returned (.slice (some ⟨A, 0, none⟩) fs.length fs.length) ∧ StrsAt w' A 0 fs ∧ w.heap.size ≤ A ∧ A < w'.heap.size ∧ Below w.heap.size w w' := by
  refine (Tryz.strings_FieldsFunc_grows _ #[] isBlank_enters Sl.blankR s w (by omega) (isBlank_pays w)).mono ?_
  rintro e w' ⟨A, rfl, hA, hown, hb⟩
  refine ⟨A, Lib.goFieldsP Sl.blankR s, Sl.fields_eq s, rfl, ?_, hA, ?_, hb⟩
  · intro i hi
    have := hown.cells (g := A) rfl i (.string (Lib.goFieldsP Sl.blankR s)[i]) (by simp [hi])
    rw [addr_add] at this
    exact this
  · rcases hown.2 with ⟨h, _⟩ | ⟨g, cap, cur, h, _, hg, _⟩
    · cases h
    · cases h
      exact (Array.getElem?_eq_some_iff.1 hg).1

theorem cell_new (w : World) (cs : Array Value) (t : TypeId) : ∀ j u, cs.toList[j]? = some u → (w.alloc (.cells cs t)).cell? ((⟨w.heap.size, 0, none⟩ : Addr).add j) = some u := by
  intro j u h
  rw [addr_add, Nat.zero_add, World.cell?_alloc_new]
  simpa using h

theorem cell_new_at (w : World) (cs : List Value) (t : TypeId) (n : Nat) (hn : n = w.heap.size) : ∀ j u, cs[j]? = some u → (w.alloc (.cells cs.toArray t)).cell? ((⟨n, 0, none⟩ : Addr).add j) = some u := by
  subst hn
  intro j u h
  exact cell_new w cs.toArray t j u (by simpa using h)

theorem own_base {w : World} {B e size n : Nat} {v : Value} {xs : List Value} (h : w.ownsRow B e size v n xs) : ∀ j, v.ownBlock = some j → B ≤ j := by
  intro j hj
  rcases h.2 with ⟨rfl, _⟩ | ⟨g, cap, cur, rfl, hg, _⟩
  · simp [Value.ownBlock] at hj
  · simp [Value.ownBlock] at hj; omega

theorem own_below {W W' : World} {B e size n : Nat} {v : Value} {xs : List Value} (h : W.ownsRow B e size v n xs) (hb : Below W.heap.size W W') : W'.ownsRow B e size v n xs :=
  h.kept (row := none) ⟨hb.os, hb.tape, hb.output, hb.size, fun k hk _ => hb.block k hk⟩ (Classical.em _)

theorem strs_made (w : World) (l : List ByteArray) (t : TypeId) : StrsAt (w.alloc (.cells (l.map Value.string).toArray t)) w.heap.size 0 l := by
  intro i hi
  rw [Nat.zero_add, World.cell?_alloc_new]
  simp [hi]

theorem info_saying : (Tryz.prog.info? 211).map (fun i => (i.zero, i.size, i.bytes)) = some (some (.agg #[.int .i64 0, .int .i64 0, .int .i64 0, .string ⟨#[]⟩, .string ⟨#[]⟩, .int .i64 0, .int .i64 0]), 7, 72) := by kernel_rfl

theorem fgo_len2 (l : List UInt8) : ∀ cur, (Sl.fgo cur l).length ≤ l.length + (if cur = [] then 0 else 1) := by
  induction l with
  | nil => intro cur; simp [Sl.fgo]; split <;> simp
  | cons c r ih =>
    intro cur
    unfold Sl.fgo
    split
    · split
      · next h => have := ih []; simp at *; omega
      · next h => have := ih []; simp at *; omega
    · have := ih (cur ++ [c]); simp at *; split <;> omega

set_option maxHeartbeats 2000000 in
theorem readLines_any (s : ByteArray) (m : Int) (w : World) (hs : s.size ≤ 2000) (hm : w.cell? ⟨1, 0, none⟩ = some (.int .i64 m)) :
    Calls Tryz.prog 73 #[.string s] w fun e w' => ∃ v, e = .returned (.tuple #[v, .int .i64 (Sl.scan 0 (Sl.lines s.data.toList) []).2]) ∧
      w'.ownsRow (w.heap.size + 1) 211 7 v (Sl.scan 0 (Sl.lines s.data.toList) []).1.length (sayAll (Sl.scan 0 (Sl.lines s.data.toList) []).1) ∧ Below w.heap.size w w' := by
  obtain ⟨i0, hi, hz0, hz1, hz2⟩ := info_parts info_saying
  obtain ⟨L, hL, hLs, hLn⟩ : ∃ L : List ByteArray, datas L = Sl.lines s.data.toList ∧ (Lib.splitB ⟨#[10]⟩ 0 (Lib.countB s ⟨#[10]⟩) s) = L ∧ Lib.countB s ⟨#[10]⟩ + 1 = L.length :=
    ⟨_, Sl.split_lines s, rfl, (Lib.splitB_all _ (by decide) 0 _ s rfl).symm⟩
  rw [← hL]
  have hsz : ∀ x ∈ L, x.size ≤ 2000 := by
    intro x hx
    have : x.data.toList ∈ Sl.lines s.data.toList := by rw [← hL]; exact List.mem_map_of_mem hx
    have := Sl.lgo_mem _ _ _ this
    simp at this; omega
  have hcount : L.length ≤ 2001 := by
    have := Sl.lgo_len s.data.toList []
    have e : L.length = (Sl.lines s.data.toList).length := by rw [← hL]; simp [datas]
    rw [e]; unfold Sl.lines; rw [size_data] at hs; omega
  have HL := hide hL
  have HLs := hide hLs; have HLn := hide hLn
  clear hL hLs hLn
  go_enter Tryz.func73, Tryz.ntmps73
  go_wp2_with fail
  refine (Tryz.strings_Split s ⟨#[10]⟩ m _ (by omega) hm (by decide)).mono ?_
  rintro e w1 ⟨rfl, rfl⟩
  rw [unhide HLs, unhide HLn]
  go_wp2_with fail
  go_loopw [4, 14] (fun v t wr => ∃ (k : Nat) (acc : List Sl.Saying), k ≤ L.length ∧ t = .int .i64 k ∧ acc.length ≤ k ∧ wr.ownsRow (w.heap.size + 1) 211 7 v acc.length (sayAll acc) ∧ Below (w.heap.size + 1) (w.alloc (.cells (L.map Value.string).toArray 9)) wr ∧ Sl.scan k (datas (L.drop k)) acc = Sl.scan 0 (datas L) []) (fun _ t _ => L.length - (intOf t).toNat)
  case atStart =>
    exact ⟨0, [], Nat.zero_le _, rfl, Nat.le_refl _, World.ownsRow_nil _ _ _ _, Below.refl _ _, by simp⟩
  case round =>
    obtain ⟨k, acc, hk, rfl, hak, hown, hbw, hsc⟩ := hrel
    have hwr : w.heap.size + 1 ≤ wr.heap.size := by have := hbw.size; simp at this; omega
    have HS := hide hsc; clear hsc
    by_cases hlt : k < L.length
    · have hLk : wr.cell? ⟨w.heap.size, k, none⟩ = some (.string L[k]) := by
        have := StrsAt.below (strs_made w L 9) hbw (by omega) k hlt
        simpa using this
      have hxs : L[k].size ≤ 2000 := hsz _ (List.getElem_mem hlt)
      have hdrop : datas (L.drop k) = L[k].data.toList :: datas (L.drop (k + 1)) := by
        rw [List.drop_eq_getElem_cons hlt]; rfl
      have HD := hide hdrop; clear hdrop
      generalize hxe : L[k] = x at *
      have HX := hide hxe; clear hxe
      go_wp2_with fail
      refine (fieldsFunc_any x _ hxs).mono ?_
      rintro e w1 ⟨A, fs, hfs, rfl, hstr, hA, hAz, hb1⟩
      have hown1 := own_below hown hb1
      have hbw1 : Below (w.heap.size + 1) (w.alloc (.cells (L.map Value.string).toArray 9)) w1 := hbw.trans (hb1.mono hwr)
      have hwr1 : w.heap.size + 1 ≤ w1.heap.size := Nat.le_trans hwr hb1.size
      by_cases hno : Sl.nothing (Sl.fields x.data.toList) = true
      · have hnext : Sl.scan (k + 1) (datas (L.drop (k + 1))) acc = Sl.scan 0 (datas L) [] := by
          rw [← unhide HS, unhide HD]
          conv => rhs; unfold Sl.scan
          rw [if_pos hno]
        have HN := hide hnext; clear hnext
        match fs, hfs, hstr with
        | [], hfs, hstr =>
          have HF := hide hfs; clear hfs hstr hno
          go_wp2_with fail
          refine (saysNothing_none _ _ _).mono ?_; rintro e w2 ⟨rfl, rfl⟩
          go_wp2
          go_roundw
          case rel => exact ⟨k + 1, acc, by omega, by go_num, by omega, hown1, hbw1, unhide HN⟩
          case measure => simp [intOf]; omega
        | f0 :: fr, hfs, hstr =>
          have hp : Lib.hasPrefix f0.data.toList [35] = true := by
            rw [← hfs] at hno; exact hno
          have h0 : w1.cell? ⟨A, 0, none⟩ = some (.string f0) := hstr 0 (by simp)
          have HF := hide hfs; have HP := hide hp; clear hfs hstr hno hp
          go_wp2_with fail
          refine (saysNothing_some f0 _ A 0 _ _ h0 (by rw [beq_eq_false_iff_ne]; simp; omega) (by simp)).mono ?_; rintro e w2 ⟨rfl, rfl⟩
          rw [unhide HP]
          go_wp2
          go_roundw
          case rel => exact ⟨k + 1, acc, by omega, by go_num, by omega, hown1, hbw1, unhide HN⟩
          case measure => simp [intOf]; omega
      · match fs, hfs, hstr with
        | [], hfs, _ => exact absurd (by rw [← hfs]; rfl) hno
        | f0 :: fr, hfs, hstr =>
          have hp : Lib.hasPrefix f0.data.toList [35] = false := by
            rw [← hfs] at hno; simpa [Sl.nothing, datas] using hno
          have h0 : w1.cell? ⟨A, 0, none⟩ = some (.string f0) := hstr 0 (by simp)
          have hfsz : ∀ y ∈ f0 :: fr, y.size ≤ 2000 := by
            intro y hy
            have h1 : y.data.toList ∈ Sl.fields x.data.toList := by rw [← hfs]; exact List.mem_map_of_mem hy
            have := Sl.fgo_mem _ _ _ h1
            simp at this; omega
          have hfl : (f0 :: fr).length ≤ 2000 := by
            have := fgo_len2 x.data.toList []
            have e : (f0 :: fr).length = (Sl.fields x.data.toList).length := by rw [← hfs]; simp [datas]
            rw [e]; unfold Sl.fields; simp at this; omega
          have HF := hide hfs; have HP := hide hp; have HNO := hide hno; have HT := hide hstr
          clear hfs hstr hno hp
          go_wp2_with fail
          refine (saysNothing_some f0 _ A 0 _ _ h0 (by rw [beq_eq_false_iff_ne]; simp; omega) (by simp)).mono ?_; rintro e w2 ⟨rfl, rfl⟩
          rw [unhide HP]
          go_wp2_with fail
          refine (readLine_any (f0 :: fr) A 0 _ _ (unhide HT) hfsz hfl (Nat.le_refl _)).mono ?_
          rintro e w2 ⟨rfl, hb2⟩
          rw [unhide HF]
          have hown2 := own_below hown1 hb2
          have hbw2 : Below (w.heap.size + 1) (w.alloc (.cells (L.map Value.string).toArray 9)) w2 := hbw1.trans (hb2.mono hwr1)
          have hwr2 : w.heap.size + 1 ≤ w2.heap.size := Nat.le_trans hwr1 hb2.size
          cases hline : Sl.line (Sl.fields x.data.toList) with
          | none =>
            have hfin : Sl.scan 0 (datas L) [] = ([], k + 1) := by
              rw [← unhide HS, unhide HD]
              unfold Sl.scan
              rw [if_neg (unhide HNO), hline]
            have HFN := hide hfin; clear hfin
            simp only [Option.map_none, Option.getD_none, Option.isSome_none, subjV, limV]
            go_wp2
            go_ret2
            rw [unhide HFN]
            refine ⟨_, rfl, World.ownsRow_nil _ _ _ _, ?_⟩
            exact (((Below.alloc1 _ _).trans (hbw2.mono (Nat.le_succ _))).alloc (by omega) _).alloc (by simp; omega) _
          | some sm =>
            obtain ⟨sb, lm⟩ := sm
            have hnext : Sl.scan (k + 1) (datas (L.drop (k + 1))) (acc ++ [⟨k + 1, sb, lm⟩]) = Sl.scan 0 (datas L) [] := by
              rw [← unhide HS, unhide HD]
              conv => rhs; unfold Sl.scan
              rw [if_neg (unhide HNO), hline]
            have HN := hide hnext; clear hnext
            clear hline
            simp only [Option.map_some, Option.getD_some, Option.isSome_some, subjV, limV]
            go_wp2_with (at_builtin; refine wpList_append_own _ rfl (.tmp 33) (.tmp 39) 153 rfl (w.heap.size + 1) 211 i0 (.agg #[.int .i64 0, .int .i64 0, .int .i64 0, .string ⟨#[]⟩, .string ⟨#[]⟩, .int .i64 0, .int .i64 0]) 7 72 Tryz.underlying153 hi hz0 hz1 hz2 rfl (by decide) _ _ _ rfl (((hown2.alloc _).alloc _).alloc _) ⟨w2.heap.size + 2, 0, none⟩ 1 1 [.int .i64 (k + 1), .int .i64 sb.kind, .int .i64 sb.cls, .string ⟨sb.org.toArray⟩, .string ⟨sb.ten.toArray⟩, .int .i64 lm.rate, .int .i64 lm.burst] rfl rfl (cell_new_at _ _ _ _ (by simp)) (by intro u hu; simp at hu; rcases hu with rfl | rfl | rfl | rfl | rfl | rfl | rfl <;> rfl) (by unfold maxLen; omega) (by omega) (by simp; omega) ?_; intro v3 w3 hown3 hgrow3 hnil3)
            go_roundw
            case rel =>
              refine ⟨k + 1, acc ++ [⟨k + 1, sb, lm⟩], by omega, by go_num, by simp; omega, ?_, ?_, unhide HN⟩
              · rw [sayAll_snoc, List.length_append]
                have e : sayCells ⟨k + 1, sb, lm⟩ = [.int .i64 ((k : Int) + 1), .int .i64 sb.kind, .int .i64 sb.cls, .string ⟨sb.org.toArray⟩, .string ⟨sb.ten.toArray⟩, .int .i64 lm.rate, .int .i64 lm.burst] := by simp [sayCells]
                rw [e]; exact hown3
              · exact (((hbw2.alloc (by omega) _).alloc (by simp; omega) _).alloc (by simp; omega) _).grown hgrow3 (by simp; omega) (own_base hown2)
            case measure => simp [intOf]; omega
    · have hke : k = L.length := by omega
      have hfin : Sl.scan 0 (datas L) [] = (acc, 0) := by rw [← unhide HS, hke]; simp [datas, Sl.scan]
      have HF := hide hfin; clear hfin hke
      go_wp2
      go_ret2
      rw [unhide HF]
      exact ⟨_, rfl, hown, ((Below.refl _ _).alloc (Nat.le_refl _) _).trans (hbw.mono (Nat.le_succ _))⟩

end Go.Proofs.YthmhfilkgggagaaGreatDoor
