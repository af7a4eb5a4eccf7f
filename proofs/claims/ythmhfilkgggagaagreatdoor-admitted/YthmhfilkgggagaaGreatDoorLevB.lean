/-
  Levels: a request is decided.
  Levels: a request is decided: it must wait.
  Levels: a request is decided: it is let through.
  Levels: a request is decided.
-/
import Derived.Test.YthmhfilkgggagaaGreatDoorLevA
namespace Go.Proofs.YthmhfilkgggagaaGreatDoor
open Go.RowKit Go.Maps Go.Sort

/-- What is decided of a cost for a tenant's bucket k: code, wait, retry; the levels behind it. -/
def admitS (l : List (Sl.Subj × Sl.Lim)) (lv : Lv) (k : Kb) (cost : Nat) : (Nat × Nat × Nat) × Lv :=
  if (limK l (k.1, k.2.1, [])).burst < cost ∨ (limK l k).burst < cost then ((413, 0, 0), lv)
  else if 64 < lv.length + emptyN lv [(k.1, k.2.1, []), k] then ((503, 0, 0), lv)
  else if 0 < max (waitV (levOf lv (k.1, k.2.1, [])) (limK l (k.1, k.2.1, [])).rate (limK l (k.1, k.2.1, [])).burst cost) (waitV (levOf lv k) (limK l k).rate (limK l k).burst cost) then
    ((429, max (waitV (levOf lv (k.1, k.2.1, [])) (limK l (k.1, k.2.1, [])).rate (limK l (k.1, k.2.1, [])).burst cost) (waitV (levOf lv k) (limK l k).rate (limK l k).burst cost),
      (max (waitV (levOf lv (k.1, k.2.1, [])) (limK l (k.1, k.2.1, [])).rate (limK l (k.1, k.2.1, [])).burst cost) (waitV (levOf lv k) (limK l k).rate (limK l k).burst cost) + 1000000000 - 1) / 1000000000), lv)
  else ((204, 0, 0), putV (putV lv (k.1, k.2.1, []) (levOf lv (k.1, k.2.1, []) + cost * 1000000000)) k (levOf lv k + cost * 1000000000))


theorem wait_zero {level rate burst cost : Nat} (hr : 0 < rate) (h : waitV level rate burst cost = 0) : level + cost * 1000000000 ≤ burst * 1000000000 := by
  unfold waitV at h
  rcases Nat.div_eq_zero_iff.1 h with h | h <;> omega

theorem waitV_le {level rate burst cost : Nat} (hl : level ≤ 1000000000000000) (hc : cost ≤ 1000000) (hr0 : 0 < rate) (hr : rate ≤ 1000000) : waitV level rate burst cost ≤ 3000000000000000 := by
  unfold waitV
  exact Nat.le_trans (Nat.div_le_self _ _) (by omega)

theorem levOf_le {lv : Lv} (hv : OkV lv) (k : Kb) : levOf lv k ≤ 1000000000000000 := by
  rcases levOf_cases hv k with ⟨h1, _⟩ | ⟨x, hx, _, h1⟩
  · omega
  · rw [h1]; exact (hv.pos x hx).2

theorem lim_pos {l : List (Sl.Subj × Sl.Lim)} (h : OkPos l) (k : Kb) (hc : k.1 < 2) : 0 < (limK l k).rate ∧ 0 < (limK l k).burst := by
  have look_pos : ∀ (s : Sl.Subj) (m : Sl.Lim), look l s = some m → 0 < m.rate ∧ 0 < m.burst := by
    intro s m hm
    unfold look at hm
    obtain ⟨x, hx, rfl⟩ := Option.map_eq_some_iff.1 hm
    exact h.pos x (List.mem_of_find?_eq_some hx)
  have hdf : ∀ j, j < 2 → ∃ m, look l ⟨j, k.1, [], []⟩ = some m := by
    intro j hj
    apply Option.isSome_iff_exists.1
    apply Classical.byContradiction
    intro hn
    have := no_default l j k.1 hj hc (by unfold dflt; simpa using hn)
    rw [h.dflt] at this
    cases this
  unfold limK limitS
  split
  · cases hq : look l ⟨2, k.1, k.2.1, []⟩ with
    | none =>
      obtain ⟨m, hm⟩ := hdf 0 (by omega)
      rw [hm]; exact look_pos _ m hm
    | some m => exact look_pos _ m hq
  · cases hq : look l ⟨3, k.1, k.2.1, k.2.2⟩ with
    | none =>
      obtain ⟨m, hm⟩ := hdf 1 (by omega)
      rw [hm]; exact look_pos _ m hm
    | some m => exact look_pos _ m hq

section
variable {l : List (Sl.Subj × Sl.Lim)} {tb mb n lb : Nat} {lv : Lv} {w0 : World} {kb rb ob c : Nat} {O T : ByteArray} {lo lt : Sl.Lim} {W : World} {A B : Nat}

theorem Ad2.call (h : Ad2 l tb mb n lb lv w0 kb rb ob c O T lo lt W A B) {w' : World} (hb : Below W.heap.size W w') : Ad2 l tb mb n lb lv w0 kb rb ob c O T lo lt w' A B :=
  ⟨h.ad.call hb, h.one.keep hb h.one.2.2.2.2, h.two.keep hb h.two.2.2.2.2, h.lowA, h.lowB⟩
theorem Ad2.drew (h : Ad2 l tb mb n lb lv w0 kb rb ob c O T lo lt W A B) : Ad2 l tb mb n lb lv w0 kb rb ob c O T lo lt W.drew A B := h.call (Below.refl _ _).drew
end

section
variable {l : List (Sl.Subj × Sl.Lim)} {tb mb n lb : Nat} {lv : Lv} {w0 : World} {kb rb ob c : Nat} {O T : ByteArray} {W : World} {As : List Nat}

theorem Ad.bare (h : Ad l tb mb n lb lv w0 kb rb ob c O T W As) : Ad l tb mb n lb lv w0 kb rb ob c O T W [] := ⟨h.table, h.lev, h.key, h.okey, h.res, h.below, (by simp), List.nodup_nil⟩

theorem Ad.after (h : Ad l tb mb n lb lv w0 kb rb ob c O T W As) (lo lt : Sl.Lim) (t t' : TypeId) :
    Ad2 l tb mb n lb lv w0 kb rb ob c O T lo lt ((W.alloc (.cells #[.int .i64 lo.rate, .int .i64 lo.burst] t)).alloc (.cells #[.int .i64 lt.rate, .int .i64 lt.burst] t')) W.heap.size (W.heap.size + 1) := by
  have b1 := Below.alloc1 W (.cells #[.int .i64 lo.rate, .int .i64 lo.burst] t)
  have b2 := Below.alloc1 (W.alloc (.cells #[.int .i64 lo.rate, .int .i64 lo.burst] t)) (.cells #[.int .i64 lt.rate, .int .i64 lt.burst] t')
  have hs := h.below.size
  have t2 := Two.made (W.alloc (.cells #[.int .i64 lo.rate, .int .i64 lo.burst] t)) (.int .i64 lt.rate) (.int .i64 lt.burst) t'
  rw [World.size_alloc] at t2
  exact ⟨(h.bare.call b1).call b2, (Two.made W _ _ t).keep b2 (by simp), t2, hs, by omega⟩

theorem Ad.after' (h : Ad l tb mb n lb lv w0 kb rb ob c O T W As) (lo lt : Sl.Lim) (t t' : TypeId) :
    Ad2 l tb mb n lb lv w0 kb rb ob c O T lo lt ((W.alloc (.cells #[.int .i64 lt.rate, .int .i64 lt.burst] t)).alloc (.cells #[.int .i64 lo.rate, .int .i64 lo.burst] t')) (W.heap.size + 1) W.heap.size := by
  have := h.after lt lo t t'
  exact ⟨this.ad, this.two, this.one, this.lowB, this.lowA⟩

theorem Ad.written (h : Ad l tb mb n lb lv w0 kb rb ob c O T W As) {a : Nat} (ha : a ∈ As) (h1 : tb < w0.heap.size) (h2 : mb < w0.heap.size) (h3 : lb < w0.heap.size) (lo lt : Sl.Lim) (t : TypeId) :
    Ad2 l tb mb n lb lv w0 kb rb ob c O T lo lt (((W.setCell ⟨a, 0, none⟩ (.int .i64 lo.rate)).setCell ⟨a, 1, none⟩ (.int .i64 lo.burst)).alloc (.cells #[.int .i64 lt.rate, .int .i64 lt.burst] t)) a W.heap.size := by
  obtain ⟨a1, a2, _⟩ := h.each a ha
  have g1 := h.write ha (.int .i64 lo.rate) (.int .i64 lo.burst) (Bs := []) (fun b hb => by simp at hb) (by simp) ⟨by omega, by omega, by omega⟩
  have b2 := Below.alloc1 ((W.setCell ⟨a, 0, none⟩ (.int .i64 lo.rate)).setCell ⟨a, 1, none⟩ (.int .i64 lo.burst)) (.cells #[.int .i64 lt.rate, .int .i64 lt.burst] t)
  have hs := h.below.size
  have t1 := two_written a1 (.int .i64 lo.rate) (.int .i64 lo.burst)
  have t2 := Two.made ((W.setCell ⟨a, 0, none⟩ (.int .i64 lo.rate)).setCell ⟨a, 1, none⟩ (.int .i64 lo.burst)) (.int .i64 lt.rate) (.int .i64 lt.burst) t
  have e : ((W.setCell ⟨a, 0, none⟩ (.int .i64 lo.rate)).setCell ⟨a, 1, none⟩ (.int .i64 lo.burst)).heap.size = W.heap.size := by simp
  rw [e] at t2
  exact ⟨g1.call b2, t1.keep b2 t1.2.2.2.2, t2, a2, hs⟩

theorem Ad.written' (h : Ad l tb mb n lb lv w0 kb rb ob c O T W As) {a : Nat} (ha : a ∈ As) (h1 : tb < w0.heap.size) (h2 : mb < w0.heap.size) (h3 : lb < w0.heap.size) (lo lt : Sl.Lim) (t : TypeId) :
    Ad2 l tb mb n lb lv w0 kb rb ob c O T lo lt (((W.setCell ⟨a, 0, none⟩ (.int .i64 lt.rate)).setCell ⟨a, 1, none⟩ (.int .i64 lt.burst)).alloc (.cells #[.int .i64 lo.rate, .int .i64 lo.burst] t)) W.heap.size a := by
  have := h.written ha h1 h2 h3 lt lo t
  exact ⟨this.ad, this.two, this.one, this.lowB, this.lowA⟩

theorem Ad.pair {x y : Nat} (h : Ad l tb mb n lb lv w0 kb rb ob c O T W [x, y]) (h1 : tb < w0.heap.size) (h2 : mb < w0.heap.size) (h3 : lb < w0.heap.size) (lo lt : Sl.Lim) :
    Ad2 l tb mb n lb lv w0 kb rb ob c O T lo lt ((((W.setCell ⟨x, 0, none⟩ (.int .i64 lo.rate)).setCell ⟨x, 1, none⟩ (.int .i64 lo.burst)).setCell ⟨y, 0, none⟩ (.int .i64 lt.rate)).setCell ⟨y, 1, none⟩ (.int .i64 lt.burst)) x y := by
  have hn := (List.nodup_cons.1 h.nodup).1
  simp at hn
  exact h.both (by simp) (by simp) hn h1 h2 h3 lo lt

theorem Ad.pair' {x y : Nat} (h : Ad l tb mb n lb lv w0 kb rb ob c O T W [x, y]) (h1 : tb < w0.heap.size) (h2 : mb < w0.heap.size) (h3 : lb < w0.heap.size) (lo lt : Sl.Lim) :
    Ad2 l tb mb n lb lv w0 kb rb ob c O T lo lt ((((W.setCell ⟨y, 0, none⟩ (.int .i64 lo.rate)).setCell ⟨y, 1, none⟩ (.int .i64 lo.burst)).setCell ⟨x, 0, none⟩ (.int .i64 lt.rate)).setCell ⟨x, 1, none⟩ (.int .i64 lt.burst)) y x := by
  have hn := (List.nodup_cons.1 h.nodup).1
  simp at hn
  exact h.both (by simp) (by simp) (fun e => hn e.symm) h1 h2 h3 lo lt
end

noncomputable def codeTail : Nat → Code → Code
  | 0, c => c
  | n + 1, .seq _ b => codeTail n b
  | _, c => c

/-- What is left of Admit behind the two limits. -/
noncomputable def admRest : Code := codeTail 3 (Tryz.f51.body.getD .skip)

abbrev admAct (lb tb c cost A B ob : Nat) (O T : ByteArray) (lo lt : Sl.Lim) (w : World) : Act :=
  { tmps := #[.map (some lb), .agg #[.int .i64 c, .string O, .string T], .int .i64 cost, .func (.func 46) #[.pointer (some ⟨tb, 0, none⟩)] #[], undef, .pointer (some ⟨w.heap.size, 0, none⟩), undef, undef, .pointer (some ⟨w.heap.size + 1, 0, none⟩), .pointer (some ⟨ob, 0, none⟩), .pointer (some ⟨A, 0, none⟩), .pointer (some ⟨B, 0, none⟩), undef,
      .agg #[.int .i64 c, .string O, .string T], .agg #[.int .i64 c, .string O, .string ⟨#[]⟩], .func (.func 46) #[.pointer (some ⟨tb, 0, none⟩)] #[], .agg #[.int .i64 c, .string O, .string ⟨#[]⟩], .agg #[.int .i64 lo.rate, .int .i64 lo.burst], .func (.func 46) #[.pointer (some ⟨tb, 0, none⟩)] #[], .agg #[.int .i64 c, .string O, .string T], .agg #[.int .i64 lt.rate, .int .i64 lt.burst],
      undef, undef, undef, undef, undef, undef, undef, undef, undef, undef, undef, undef, undef, undef, undef, undef, undef, undef, undef, undef, undef, undef, undef, undef, undef, undef, undef, undef, undef, undef, undef, undef, undef, undef, undef, undef, undef, undef, undef, undef, undef, undef, undef, undef], defers := [] }

abbrev admPost (R : Nat × Nat × Nat) (LV : Lv) (lb : Nat) (w : World) : Exit → Act → World → Prop :=
  bodyPost Tryz.prog Tryz.f51 fun e w' => e = .returned (.agg #[.int .i64 R.1, .int .i64 R.2.1, .int .i64 R.2.2]) ∧ OwnsV w' lb LV ∧ w.grownBy w' (some lb)

set_option maxRecDepth 100000 in
set_option maxHeartbeats 4000000 in
theorem adm_413a (l : List (Sl.Subj × Sl.Lim)) (tb mb n lb : Nat) (lv : Lv) (c : Nat) (cost : Nat) (w w2 : World) (ob A B : Nat) (O T : ByteArray) (lo lt : Sl.Lim) (hlb : lb < w.heap.size) (hA2 : Ad2 l tb mb n lb lv w w.heap.size (w.heap.size + 1) ob c O T lo lt w2 A B) (q : (lo.burst : Int) < (cost : Int)) :
    Code.wp Tryz.prog admRest (admPost (413, 0, 0) lv lb w) (admAct lb tb c cost A B ob O T lo lt w) w2 := by
  conv => arg 2; whnf
  have HA := hide hA2
  obtain ⟨⟨a0, a1, -, -, -⟩, ⟨b0, b1, -, -, -⟩⟩ := And.intro hA2.one hA2.two
  obtain ⟨r0, r1, r2, rf0, rf1, rf2, rn⟩ := hA2.ad.res
  clear hA2
  go_wp2
  refine bodyPost_ret (v := .agg #[.int .i64 413, .int .i64 0, .int .i64 0]) (by simp [results, Tryz.results51, go_sem, r0, r1, r2]) rfl ⟨rfl, ?_, ?_⟩
  · exact (((unhide HA).ad.lev.kept (((grown_set _ (w.heap.size + 1) 0 _).trans (grown_set _ (w.heap.size + 1) 1 _)).trans (grown_set _ (w.heap.size + 1) 2 _)) (by simp; omega)))
  · exact grown_below ((((unhide HA).ad.below.setCell (by simp) _).setCell (by simp) _).setCell (by simp) _)

set_option maxRecDepth 100000 in
set_option maxHeartbeats 4000000 in
theorem adm_413b (l : List (Sl.Subj × Sl.Lim)) (tb mb n lb : Nat) (lv : Lv) (c : Nat) (cost : Nat) (w w2 : World) (ob A B : Nat) (O T : ByteArray) (lo lt : Sl.Lim) (hlb : lb < w.heap.size) (hA2 : Ad2 l tb mb n lb lv w w.heap.size (w.heap.size + 1) ob c O T lo lt w2 A B) (p : ¬ (lo.burst : Int) < (cost : Int)) (q : (lt.burst : Int) < (cost : Int)) :
    Code.wp Tryz.prog admRest (admPost (413, 0, 0) lv lb w) (admAct lb tb c cost A B ob O T lo lt w) w2 := by
  conv => arg 2; whnf
  have HA := hide hA2
  obtain ⟨⟨a0, a1, -, -, -⟩, ⟨b0, b1, -, -, -⟩⟩ := And.intro hA2.one hA2.two
  obtain ⟨r0, r1, r2, rf0, rf1, rf2, rn⟩ := hA2.ad.res
  clear hA2
  go_wp2
  refine bodyPost_ret (v := .agg #[.int .i64 413, .int .i64 0, .int .i64 0]) (by simp [results, Tryz.results51, go_sem, r0, r1, r2]) rfl ⟨rfl, ?_, ?_⟩
  · exact (((unhide HA).ad.lev.kept (((grown_set _ (w.heap.size + 1) 0 _).trans (grown_set _ (w.heap.size + 1) 1 _)).trans (grown_set _ (w.heap.size + 1) 2 _)) (by simp; omega)))
  · exact grown_below ((((unhide HA).ad.below.setCell (by simp) _).setCell (by simp) _).setCell (by simp) _)

set_option maxRecDepth 100000 in
set_option maxHeartbeats 4000000 in
theorem adm_503 (l : List (Sl.Subj × Sl.Lim)) (tb mb n lb : Nat) (lv : Lv) (c : Nat) (org ten : List UInt8) (cost : Nat) (w w2 : World) (ob A B : Nat) (O T : ByteArray) (lo lt : Sl.Lim) (hlb : lb < w.heap.size) (hA2 : Ad2 l tb mb n lb lv w w.heap.size (w.heap.size + 1) ob c O T lo lt w2 A B) (hO : O = ⟨org.toArray⟩) (hTT : T = ⟨ten.toArray⟩) (hv : OkV lv) (hfew : lv.length ≤ 1000) (hk : OkK (c, org, ten)) (p1 : ¬ (lo.burst : Int) < (cost : Int)) (p2 : ¬ (lt.burst : Int) < (cost : Int)) (q3 : 64 < lv.length + emptyN lv [(c, org, []), (c, org, ten)]) :
    Code.wp Tryz.prog admRest (admPost (503, 0, 0) lv lb w) (admAct lb tb c cost A B ob O T lo lt w) w2 := by
  conv => arg 2; whnf
  have HA := hide hA2
  obtain ⟨⟨a0, a1, -, -, -⟩, ⟨b0, b1, -, -, -⟩⟩ := And.intro hA2.one hA2.two
  obtain ⟨r0, r1, r2, rf0, rf1, rf2, rn⟩ := hA2.ad.res
  clear hA2
  obtain ⟨k0, k1, k2, -, -, -, kn⟩ := (unhide HA).ad.key
  obtain ⟨o0, o1, o2, -, -, -, on⟩ := (unhide HA).ad.okey
  have hko : OkK (c, org, []) := ⟨hk.1, hk.2.1, by simp⟩
  have HK := hide hk; have HO := hide hO; have HTT := hide hTT
  have hroom := hide (haveRoom_any lb lv [(c, org, []), (c, org, ten)] w2.heap.size 2 (w2.alloc (.cells #[.int .i64 c, .string O, .string ⟨#[]⟩, .int .i64 c, .string O, .string T] 118)) ((unhide HA).ad.lev.kept (World.grownBy_alloc w2 _ none) (by simp)) hv hfew (by
    intro j u hu
    rw [unhide HO, unhide HTT]
    have e : keyAll [(c, org, []), (c, org, ten)] = (#[.int .i64 c, .string ⟨org.toArray⟩, .string ⟨#[]⟩, .int .i64 c, .string ⟨org.toArray⟩, .string ⟨ten.toArray⟩] : Array Value).toList := rfl
    rw [e] at hu
    simp only [World.cell?, (MapKept.heap_alloc w2 _).1]
    simpa using hu) (by simp) (by simp) (by
    intro k hk
    simp at hk
    rcases hk with rfl | rfl
    · exact hko
    · exact unhide HK))
  rw [show [(c, org, ([] : List UInt8)), (c, org, ten)].length = 2 from rfl] at hroom
  rw [decide_eq_false (by omega)] at hroom
  clear q3 hO hTT hk
  go_wp2_with fail
  refine (unhide hroom).mono ?_
  rintro e w3 ⟨rfl, hb3⟩
  have hb4 : Below w2.heap.size w2 w3 := (Below.alloc1 w2 _).trans (hb3.mono (by simp))
  have HA3 := hide ((unhide HA).call hb4)
  clear hb3 hb4 r0 r1 r2 rf0 rf1 rf2 rn k0 k1 k2 o0 o1 o2 a0 a1 b0 b1
  obtain ⟨r0, r1, r2, rf0, rf1, rf2, rn⟩ := (unhide HA3).ad.res
  go_wp2
  refine bodyPost_ret (v := .agg #[.int .i64 503, .int .i64 0, .int .i64 0]) (by simp [results, Tryz.results51, go_sem, r0, r1, r2]) rfl ⟨rfl, ?_, ?_⟩
  · exact (((unhide HA3).ad.lev.kept (((grown_set _ (w.heap.size + 1) 0 _).trans (grown_set _ (w.heap.size + 1) 1 _)).trans (grown_set _ (w.heap.size + 1) 2 _)) (by simp; omega)))
  · exact grown_below ((((unhide HA3).ad.below.setCell (by simp) _).setCell (by simp) _).setCell (by simp) _)

end Go.Proofs.YthmhfilkgggagaaGreatDoor

namespace Go.Proofs.YthmhfilkgggagaaGreatDoor
open Go.RowKit Go.Maps Go.Sort

set_option maxRecDepth 100000 in
set_option maxHeartbeats 4000000 in
theorem adm_429 (l : List (Sl.Subj × Sl.Lim)) (tb mb n lb : Nat) (lv : Lv) (c : Nat) (org ten : List UInt8) (cost : Nat) (w w2 : World) (ob A B : Nat) (O T : ByteArray) (lo lt : Sl.Lim) (hlb : lb < w.heap.size) (hA2 : Ad2 l tb mb n lb lv w w.heap.size (w.heap.size + 1) ob c O T lo lt w2 A B) (hO : O = ⟨org.toArray⟩) (hTT : T = ⟨ten.toArray⟩) (hv : OkV lv) (hfew : lv.length ≤ 1000) (hk : OkK (c, org, ten)) (hlr : lo.rate ≤ 1000000 ∧ lo.burst ≤ 1000000) (htr : lt.rate ≤ 1000000 ∧ lt.burst ≤ 1000000) (hlp : 0 < lo.rate ∧ 0 < lo.burst) (htp : 0 < lt.rate ∧ 0 < lt.burst) (hc : cost ≤ 1000000) (p1 : ¬ (lo.burst : Int) < (cost : Int)) (p2 : ¬ (lt.burst : Int) < (cost : Int)) (q3 : ¬ 64 < lv.length + emptyN lv [(c, org, []), (c, org, ten)]) (M : Nat) (hM0 : M = max (waitV (levOf lv (c, org, [])) lo.rate lo.burst cost) (waitV (levOf lv (c, org, ten)) lt.rate lt.burst cost)) (q4 : 0 < M) (Y : Nat) (hY : Y = (M + 1000000000 - 1) / 1000000000) :
    Code.wp Tryz.prog admRest (admPost (429, M, Y) lv lb w) (admAct lb tb c cost A B ob O T lo lt w) w2 := by
  conv => arg 2; whnf
  have HA := hide hA2
  obtain ⟨⟨a0, a1, -, -, -⟩, ⟨b0, b1, -, -, -⟩⟩ := And.intro hA2.one hA2.two
  obtain ⟨r0, r1, r2, rf0, rf1, rf2, rn⟩ := hA2.ad.res
  clear hA2
  obtain ⟨k0, k1, k2, -, -, -, kn⟩ := (unhide HA).ad.key
  obtain ⟨o0, o1, o2, -, -, -, on⟩ := (unhide HA).ad.okey
  have hko : OkK (c, org, []) := ⟨hk.1, hk.2.1, by simp⟩
  have HK := hide hk; have HO := hide hO; have HTT := hide hTT
  have hroom := hide (haveRoom_any lb lv [(c, org, []), (c, org, ten)] w2.heap.size 2 (w2.alloc (.cells #[.int .i64 c, .string O, .string ⟨#[]⟩, .int .i64 c, .string O, .string T] 118)) ((unhide HA).ad.lev.kept (World.grownBy_alloc w2 _ none) (by simp)) hv hfew (by
    intro j u hu
    rw [unhide HO, unhide HTT]
    have e : keyAll [(c, org, []), (c, org, ten)] = (#[.int .i64 c, .string ⟨org.toArray⟩, .string ⟨#[]⟩, .int .i64 c, .string ⟨org.toArray⟩, .string ⟨ten.toArray⟩] : Array Value).toList := rfl
    rw [e] at hu
    simp only [World.cell?, (MapKept.heap_alloc w2 _).1]
    simpa using hu) (by simp) (by simp) (by
    intro k hk
    simp at hk
    rcases hk with rfl | rfl
    · exact hko
    · exact unhide HK))
  rw [show [(c, org, ([] : List UInt8)), (c, org, ten)].length = 2 from rfl] at hroom
  rw [decide_eq_true (by omega)] at hroom
  have HMM := hide hM0; have HY := hide hY
  clear hO hTT hk hM0 hY
  go_wp2_with fail
  refine (unhide hroom).mono ?_
  rintro e w3 ⟨rfl, hb3⟩
  have hb4 : Below w2.heap.size w2 w3 := (Below.alloc1 w2 _).trans (hb3.mono (by simp))
  have hA3 := ((unhide HA).call hb4).drew
  have HA3 := hide hA3
  clear hb3 hb4 r0 r1 r2 rf0 rf1 rf2 rn k0 k1 k2 o0 o1 o2 a0 a1 b0 b1 hroom
  obtain ⟨k0, k1, k2, -, -, -, kn⟩ := hA3.ad.key
  obtain ⟨o0, o1, o2, -, -, -, on⟩ := hA3.ad.okey
  obtain ⟨a0, a1, -, -, an⟩ := hA3.one
  obtain ⟨b0, b1, -, -, bn⟩ := hA3.two
  obtain ⟨WO, hWO⟩ : ∃ x, x = waitV (levOf lv (c, org, [])) lo.rate lo.burst cost := ⟨_, rfl⟩
  obtain ⟨WT, hWT⟩ : ∃ x, x = waitV (levOf lv (c, org, ten)) lt.rate lt.burst cost := ⟨_, rfl⟩
  have hwo : Hid (∀ W, Ad2 l tb mb n lb lv w w.heap.size (w.heap.size + 1) ob c O T lo lt W A B → Calls Tryz.prog 81 #[.map (some lb), .agg #[.int .i64 c, .string O, .string ⟨#[]⟩], .int .i64 cost, .agg #[.int .i64 lo.rate, .int .i64 lo.burst]] W fun e w' => e = .returned (.int .i64 (WO : Nat)) ∧ Ad2 l tb mb n lb lv w w.heap.size (w.heap.size + 1) ob c O T lo lt w' A B) := hide (fun W hW => by
    have := lvWait_any lb lv (c, org, []) cost lo.rate lo.burst W hW.ad.lev hv hko hlp.1 hlr.1 hlr.2 hc
    rw [hWO, unhide HO]
    rw [unhide HO] at hW
    exact this.mono fun e w' ⟨h1, h2⟩ => ⟨h1, hW.call h2⟩)
  have hwt : Hid (∀ W, Ad2 l tb mb n lb lv w w.heap.size (w.heap.size + 1) ob c O T lo lt W A B → Calls Tryz.prog 81 #[.map (some lb), .agg #[.int .i64 c, .string O, .string T], .int .i64 cost, .agg #[.int .i64 lt.rate, .int .i64 lt.burst]] W fun e w' => e = .returned (.int .i64 (WT : Nat)) ∧ Ad2 l tb mb n lb lv w w.heap.size (w.heap.size + 1) ob c O T lo lt w' A B) := hide (fun W hW => by
    have := lvWait_any lb lv (c, org, ten) cost lt.rate lt.burst W hW.ad.lev hv (unhide HK) htp.1 htr.1 htr.2 hc
    rw [hWT, unhide HO, unhide HTT]
    rw [unhide HO, unhide HTT] at hW
    exact this.mono fun e w' ⟨h1, h2⟩ => ⟨h1, hW.call h2⟩)
  have hWOb : WO ≤ 3000000000000000 := by rw [hWO]; exact waitV_le (levOf_le hv _) hc hlp.1 hlr.1
  have hWTb : WT ≤ 3000000000000000 := by rw [hWT]; exact waitV_le (levOf_le hv _) hc htp.1 htr.1
  have HW := hide (And.intro hWO hWT)
  have hM : M = max WO WT := by rw [hWO, hWT]; exact unhide HMM
  have hmx : max (WO : Int) (WT : Int) = (M : Int) := by omega
  have hMb : M ≤ 3000000000000000 := by omega
  have HM := hide hM
  clear hWO hWT hM hA3
  go_wp2_with fail
  go_region_held3 (fun w' => w'.cell? ⟨w.heap.size, 0, none⟩ = some (.int .i64 c) ∧ w'.cell? ⟨w.heap.size, 1, none⟩ = some (.string O) ∧ w'.cell? ⟨w.heap.size, 2, none⟩ = some (.string T) ∧ w'.cell? ⟨ob, 0, none⟩ = some (.int .i64 c) ∧ w'.cell? ⟨ob, 1, none⟩ = some (.string O) ∧ w'.cell? ⟨ob, 2, none⟩ = some (.string ⟨#[]⟩) ∧ w'.cell? ⟨A, 0, none⟩ = some (.int .i64 lo.rate) ∧ w'.cell? ⟨A, 1, none⟩ = some (.int .i64 lo.burst) ∧ w'.cell? ⟨B, 0, none⟩ = some (.int .i64 lt.rate) ∧ w'.cell? ⟨B, 1, none⟩ = some (.int .i64 lt.burst)) (go_keep)
    (first
      | (go_at_call_of 81 (Value.agg #[Value.int IntKind.i64 (c : Int), Value.string O, Value.string ⟨#[]⟩]); refine (unhide hwo _ (unhide HA3)).mono ?_; rintro e w4 ⟨rfl, hA4⟩; have HA4 := hide hA4; obtain ⟨e0, e1, e2, -, -, -, en⟩ := hA4.ad.key; obtain ⟨f0, f1, f2, -, -, -, fn⟩ := hA4.ad.okey; obtain ⟨g0, g1, -, -, gn⟩ := hA4.one; obtain ⟨h0, h1, -, -, hn⟩ := hA4.two; clear hA4)
      | (go_at_call_of 81 (Value.agg #[Value.int IntKind.i64 (c : Int), Value.string O, Value.string T]); refine (unhide hwt _ (unhide HA4)).mono ?_; rintro e w5 ⟨rfl, hA5⟩; have HA5 := hide hA5; obtain ⟨i0, i1, i2, -, -, -, in_⟩ := hA5.ad.key; obtain ⟨j0, j1, j2, -, -, -, jn⟩ := hA5.ad.okey; obtain ⟨m0, m1, -, -, mn⟩ := hA5.one; obtain ⟨n0, n1, -, -, nn⟩ := hA5.two; clear hA5))
  clear k0 k1 k2 o0 o1 o2 a0 a1 b0 b1 e0 e1 e2 f0 f1 f2 g0 g1 h0 h1 m0 m1 n0 n1
  obtain ⟨r0, r1, r2, rf0, rf1, rf2, rn⟩ := (unhide HA5).ad.res
  have qi : (0 : Int) < (M : Int) := by omega
  have hru : Hid (∀ W, Calls Tryz.prog 82 #[.int .i64 M, .int .i64 1000000000] W fun e w' => e = .returned (.int .i64 (Y : Nat)) ∧ w' = W) := hide (fun W => by rw [unhide HY]; exact roundUp_any M 1000000000 W (by omega) (by omega) (by omega))
  clear q4 i0 i1 i2 j0 j1 j2
  go_wp2_with fail
  refine (unhide hru _).mono ?_
  rintro e w6 ⟨rfl, rfl⟩
  go_wp2
  refine bodyPost_ret (v := .agg #[.int .i64 429, .int .i64 (M : Nat), .int .i64 (Y : Nat)]) (by simp [results, Tryz.results51, go_sem, r0, r1, r2]) rfl ⟨rfl, ?_, ?_⟩
  · exact (((unhide HA5).ad.lev.kept (((grown_set _ (w.heap.size + 1) 0 _).trans (grown_set _ (w.heap.size + 1) 1 _)).trans (grown_set _ (w.heap.size + 1) 2 _)) (by simp; omega)))
  · exact grown_below ((((unhide HA5).ad.below.setCell (by simp) _).setCell (by simp) _).setCell (by simp) _)

end Go.Proofs.YthmhfilkgggagaaGreatDoor

namespace Go.Proofs.YthmhfilkgggagaaGreatDoor
open Go.RowKit Go.Maps Go.Sort

set_option maxRecDepth 100000 in
set_option maxHeartbeats 4000000 in
theorem adm_204 (l : List (Sl.Subj × Sl.Lim)) (tb mb n lb : Nat) (lv : Lv) (c : Nat) (org ten : List UInt8) (cost : Nat) (w w2 : World) (ob A B : Nat) (O T : ByteArray) (lo lt : Sl.Lim) (hlb : lb < w.heap.size) (hA2 : Ad2 l tb mb n lb lv w w.heap.size (w.heap.size + 1) ob c O T lo lt w2 A B) (hO : O = ⟨org.toArray⟩) (hTT : T = ⟨ten.toArray⟩) (hv : OkV lv) (hfew : lv.length ≤ 1000) (hk : OkK (c, org, ten)) (hlr : lo.rate ≤ 1000000 ∧ lo.burst ≤ 1000000) (htr : lt.rate ≤ 1000000 ∧ lt.burst ≤ 1000000) (hlp : 0 < lo.rate ∧ 0 < lo.burst) (htp : 0 < lt.rate ∧ 0 < lt.burst) (hc : cost ≤ 1000000) (hc0 : 1 ≤ cost) (hne : ten ≠ []) (p1 : ¬ (lo.burst : Int) < (cost : Int)) (p2 : ¬ (lt.burst : Int) < (cost : Int)) (q3 : ¬ 64 < lv.length + emptyN lv [(c, org, []), (c, org, ten)]) (M : Nat) (hM0 : M = max (waitV (levOf lv (c, org, [])) lo.rate lo.burst cost) (waitV (levOf lv (c, org, ten)) lt.rate lt.burst cost)) (q4 : ¬ 0 < M) :
    Code.wp Tryz.prog admRest (admPost (204, 0, 0) (putV (putV lv (c, org, []) (levOf lv (c, org, []) + cost * 1000000000)) (c, org, ten) (levOf lv (c, org, ten) + cost * 1000000000)) lb w) (admAct lb tb c cost A B ob O T lo lt w) w2 := by
  conv => arg 2; whnf
  have HA := hide hA2
  obtain ⟨⟨a0, a1, -, -, -⟩, ⟨b0, b1, -, -, -⟩⟩ := And.intro hA2.one hA2.two
  obtain ⟨r0, r1, r2, rf0, rf1, rf2, rn⟩ := hA2.ad.res
  clear hA2
  obtain ⟨k0, k1, k2, -, -, -, kn⟩ := (unhide HA).ad.key
  obtain ⟨o0, o1, o2, -, -, -, on⟩ := (unhide HA).ad.okey
  have hko : OkK (c, org, []) := ⟨hk.1, hk.2.1, by simp⟩
  have HK := hide hk; have HO := hide hO; have HTT := hide hTT
  have hroom := hide (haveRoom_any lb lv [(c, org, []), (c, org, ten)] w2.heap.size 2 (w2.alloc (.cells #[.int .i64 c, .string O, .string ⟨#[]⟩, .int .i64 c, .string O, .string T] 118)) ((unhide HA).ad.lev.kept (World.grownBy_alloc w2 _ none) (by simp)) hv hfew (by
    intro j u hu
    rw [unhide HO, unhide HTT]
    have e : keyAll [(c, org, []), (c, org, ten)] = (#[.int .i64 c, .string ⟨org.toArray⟩, .string ⟨#[]⟩, .int .i64 c, .string ⟨org.toArray⟩, .string ⟨ten.toArray⟩] : Array Value).toList := rfl
    rw [e] at hu
    simp only [World.cell?, (MapKept.heap_alloc w2 _).1]
    simpa using hu) (by simp) (by simp) (by
    intro k hk
    simp at hk
    rcases hk with rfl | rfl
    · exact hko
    · exact unhide HK))
  rw [show [(c, org, ([] : List UInt8)), (c, org, ten)].length = 2 from rfl] at hroom
  rw [decide_eq_true (by omega)] at hroom
  have HMM := hide hM0
  clear hO hTT hk hM0
  go_wp2_with fail
  refine (unhide hroom).mono ?_
  rintro e w3 ⟨rfl, hb3⟩
  have hb4 : Below w2.heap.size w2 w3 := (Below.alloc1 w2 _).trans (hb3.mono (by simp))
  have hA3 := ((unhide HA).call hb4).drew
  have HA3 := hide hA3
  clear hb3 hb4 r0 r1 r2 rf0 rf1 rf2 rn k0 k1 k2 o0 o1 o2 a0 a1 b0 b1 hroom
  obtain ⟨k0, k1, k2, -, -, -, kn⟩ := hA3.ad.key
  obtain ⟨o0, o1, o2, -, -, -, on⟩ := hA3.ad.okey
  obtain ⟨a0, a1, -, -, an⟩ := hA3.one
  obtain ⟨b0, b1, -, -, bn⟩ := hA3.two
  obtain ⟨WO, hWO⟩ : ∃ x, x = waitV (levOf lv (c, org, [])) lo.rate lo.burst cost := ⟨_, rfl⟩
  obtain ⟨WT, hWT⟩ : ∃ x, x = waitV (levOf lv (c, org, ten)) lt.rate lt.burst cost := ⟨_, rfl⟩
  have hwo : Hid (∀ W, Ad2 l tb mb n lb lv w w.heap.size (w.heap.size + 1) ob c O T lo lt W A B → Calls Tryz.prog 81 #[.map (some lb), .agg #[.int .i64 c, .string O, .string ⟨#[]⟩], .int .i64 cost, .agg #[.int .i64 lo.rate, .int .i64 lo.burst]] W fun e w' => e = .returned (.int .i64 (WO : Nat)) ∧ Ad2 l tb mb n lb lv w w.heap.size (w.heap.size + 1) ob c O T lo lt w' A B) := hide (fun W hW => by
    have := lvWait_any lb lv (c, org, []) cost lo.rate lo.burst W hW.ad.lev hv hko hlp.1 hlr.1 hlr.2 hc
    rw [hWO, unhide HO]
    rw [unhide HO] at hW
    exact this.mono fun e w' ⟨h1, h2⟩ => ⟨h1, hW.call h2⟩)
  have hwt : Hid (∀ W, Ad2 l tb mb n lb lv w w.heap.size (w.heap.size + 1) ob c O T lo lt W A B → Calls Tryz.prog 81 #[.map (some lb), .agg #[.int .i64 c, .string O, .string T], .int .i64 cost, .agg #[.int .i64 lt.rate, .int .i64 lt.burst]] W fun e w' => e = .returned (.int .i64 (WT : Nat)) ∧ Ad2 l tb mb n lb lv w w.heap.size (w.heap.size + 1) ob c O T lo lt w' A B) := hide (fun W hW => by
    have := lvWait_any lb lv (c, org, ten) cost lt.rate lt.burst W hW.ad.lev hv (unhide HK) htp.1 htr.1 htr.2 hc
    rw [hWT, unhide HO, unhide HTT]
    rw [unhide HO, unhide HTT] at hW
    exact this.mono fun e w' ⟨h1, h2⟩ => ⟨h1, hW.call h2⟩)
  have hWOb : WO ≤ 3000000000000000 := by rw [hWO]; exact waitV_le (levOf_le hv _) hc hlp.1 hlr.1
  have hWTb : WT ≤ 3000000000000000 := by rw [hWT]; exact waitV_le (levOf_le hv _) hc htp.1 htr.1
  have HW := hide (And.intro hWO hWT)
  have hM : M = max WO WT := by rw [hWO, hWT]; exact unhide HMM
  have hmx : max (WO : Int) (WT : Int) = (M : Int) := by omega
  have hMb : M ≤ 3000000000000000 := by omega
  have HM := hide hM
  clear hWO hWT hM hA3
  go_wp2_with fail
  go_region_held3 (fun w' => w'.cell? ⟨w.heap.size, 0, none⟩ = some (.int .i64 c) ∧ w'.cell? ⟨w.heap.size, 1, none⟩ = some (.string O) ∧ w'.cell? ⟨w.heap.size, 2, none⟩ = some (.string T) ∧ w'.cell? ⟨ob, 0, none⟩ = some (.int .i64 c) ∧ w'.cell? ⟨ob, 1, none⟩ = some (.string O) ∧ w'.cell? ⟨ob, 2, none⟩ = some (.string ⟨#[]⟩) ∧ w'.cell? ⟨A, 0, none⟩ = some (.int .i64 lo.rate) ∧ w'.cell? ⟨A, 1, none⟩ = some (.int .i64 lo.burst) ∧ w'.cell? ⟨B, 0, none⟩ = some (.int .i64 lt.rate) ∧ w'.cell? ⟨B, 1, none⟩ = some (.int .i64 lt.burst)) (go_keep)
    (first
      | (go_at_call_of 81 (Value.agg #[Value.int IntKind.i64 (c : Int), Value.string O, Value.string ⟨#[]⟩]); refine (unhide hwo _ (unhide HA3)).mono ?_; rintro e w4 ⟨rfl, hA4⟩; have HA4 := hide hA4; obtain ⟨e0, e1, e2, -, -, -, en⟩ := hA4.ad.key; obtain ⟨f0, f1, f2, -, -, -, fn⟩ := hA4.ad.okey; obtain ⟨g0, g1, -, -, gn⟩ := hA4.one; obtain ⟨h0, h1, -, -, hn⟩ := hA4.two; clear hA4)
      | (go_at_call_of 81 (Value.agg #[Value.int IntKind.i64 (c : Int), Value.string O, Value.string T]); refine (unhide hwt _ (unhide HA4)).mono ?_; rintro e w5 ⟨rfl, hA5⟩; have HA5 := hide hA5; obtain ⟨i0, i1, i2, -, -, -, in_⟩ := hA5.ad.key; obtain ⟨j0, j1, j2, -, -, -, jn⟩ := hA5.ad.okey; obtain ⟨m0, m1, -, -, mn⟩ := hA5.one; obtain ⟨n0, n1, -, -, nn⟩ := hA5.two; clear hA5))
  clear k0 k1 k2 o0 o1 o2 a0 a1 b0 b1 e0 e1 e2 f0 f1 f2 g0 g1 h0 h1 m0 m1 n0 n1
  obtain ⟨r0, r1, r2, rf0, rf1, rf2, rn⟩ := (unhide HA5).ad.res
  have qi : ¬ (0 : Int) < (M : Int) := by omega
  have hM0 : max WO WT = 0 := by rw [← unhide HM]; omega
  have z1 := wait_zero hlp.1 ((unhide HW).1.symm.trans (by omega))
  have z2 := wait_zero htp.1 ((unhide HW).2.symm.trans (by omega))
  have ok1 := hv.put hko (v := levOf lv (c, org, []) + cost * 1000000000) (by omega) (by omega)
  have el := levOf_put lv (c, org, []) (levOf lv (c, org, []) + cost * 1000000000) (c, org, ten) hv ok1
  rw [if_neg (by intro e; cases e; exact hne rfl)] at el
  have hl1 : (putV lv (c, org, []) (levOf lv (c, org, []) + cost * 1000000000)).length ≤ 1000 := by
    rw [put_len _ hv]
    have := (unhide HA5).ad.lev
    split <;> omega
  have hch1 : Hid (Calls Tryz.prog 83 #[.map (some lb), .agg #[.int .i64 c, .string O, .string ⟨#[]⟩], .int .i64 cost] w5 fun e w' => e = .returned (.tuple #[]) ∧ OwnsV w' lb (putV lv (c, org, []) (levOf lv (c, org, []) + cost * 1000000000)) ∧ w5.grownBy w' (some lb)) := hide (by
    rw [unhide HO]
    exact charge_any lb lv c org [] cost w5 (unhide HA5).ad.lev hv hko hfew hc)
  have hch2 : Hid (∀ W, OwnsV W lb (putV lv (c, org, []) (levOf lv (c, org, []) + cost * 1000000000)) → Calls Tryz.prog 83 #[.map (some lb), .agg #[.int .i64 c, .string O, .string T], .int .i64 cost] W fun e w' => e = .returned (.tuple #[]) ∧ OwnsV w' lb (putV (putV lv (c, org, []) (levOf lv (c, org, []) + cost * 1000000000)) (c, org, ten) (levOf lv (c, org, ten) + cost * 1000000000)) ∧ W.grownBy w' (some lb)) := hide (fun W hW => by
    have := charge_any lb _ c org ten cost W hW ok1 (unhide HK) hl1 hc
    rw [el] at this
    rw [unhide HO, unhide HTT]
    exact this)
  have hb5 := hide (unhide HA5).ad.below
  have s5 := (unhide HA5).ad.below.size
  have nk : w.heap.size ≠ lb := by omega
  have nr : w.heap.size + 1 ≠ lb := by omega
  have hkn := in_
  clear q4 z1 z2 ok1 el hl1 hM0
  go_wp2_with fail
  refine (unhide hch1).mono ?_
  rintro e w6 ⟨rfl, ho6, hg6⟩
  have far6 : ∀ b o, b ≠ lb → b < w5.heap.size → w6.cell? ⟨b, o, none⟩ = w5.cell? ⟨b, o, none⟩ := fun b o hb hz => World.cell?_of_block (a := ⟨b, o, none⟩) (hg6.block b hz (by simpa using hb))
  have i0' := (far6 w.heap.size 0 nk hkn).trans i0
  have i1' := (far6 w.heap.size 1 nk hkn).trans i1
  have i2' := (far6 w.heap.size 2 nk hkn).trans i2
  have r0' := (far6 (w.heap.size + 1) 0 nr rn).trans r0
  have r1' := (far6 (w.heap.size + 1) 1 nr rn).trans r1
  have r2' := (far6 (w.heap.size + 1) 2 nr rn).trans r2
  have z6 : ∀ o, w6.frozen? ⟨w.heap.size + 1, o, none⟩ = w5.frozen? ⟨w.heap.size + 1, o, none⟩ := fun o => World.frozen?_of_block (a := ⟨w.heap.size + 1, o, none⟩) (hg6.block (w.heap.size + 1) rn (by simpa using nr))
  have rf0' := (z6 0).trans rf0
  have rf1' := (z6 1).trans rf1
  have rf2' := (z6 2).trans rf2
  have rn' : w.heap.size + 1 < w6.heap.size := Nat.lt_of_lt_of_le rn hg6.size
  have HO6 := hide ho6; have HG6 := hide hg6
  clear ho6 hg6 far6 z6 i0 i1 i2 r0 r1 r2 rf0 rf1 rf2 j0 j1 j2 hch1
  go_wp2_with fail
  refine (unhide hch2 _ (unhide HO6)).mono ?_
  rintro e w7 ⟨rfl, ho7, hg7⟩
  have far7 : ∀ o, w7.cell? ⟨w.heap.size + 1, o, none⟩ = w6.cell? ⟨w.heap.size + 1, o, none⟩ := fun o => World.cell?_of_block (a := ⟨w.heap.size + 1, o, none⟩) (hg7.block _ rn' (by simpa using nr))
  have z7 : ∀ o, w7.frozen? ⟨w.heap.size + 1, o, none⟩ = w6.frozen? ⟨w.heap.size + 1, o, none⟩ := fun o => World.frozen?_of_block (a := ⟨w.heap.size + 1, o, none⟩) (hg7.block _ rn' (by simpa using nr))
  have p0 := (far7 0).trans r0'
  have p1 := (far7 1).trans r1'
  have p2 := (far7 2).trans r2'
  have pf0 := (z7 0).trans rf0'
  have pf1 := (z7 1).trans rf1'
  have pf2 := (z7 2).trans rf2'
  have pn : w.heap.size + 1 < w7.heap.size := Nat.lt_of_lt_of_le rn' hg7.size
  have HO7 := hide ho7
  have HG7 : Hid (w.grownBy w7 (some lb)) := hide (((grown_below (unhide hb5)).trans (unhide HG6)).trans hg7)
  clear ho7 hg7 far7 z7 r0' r1' r2' rf0' rf1' rf2' i0' i1' i2' hch2
  go_wp2
  refine bodyPost_ret (v := .agg #[.int .i64 204, .int .i64 0, .int .i64 0]) (by simp [results, Tryz.results51, go_sem, p0, p1, p2]) rfl ⟨rfl, ?_, ?_⟩
  · exact (unhide HO7).kept (((grown_set _ (w.heap.size + 1) 0 _).trans (grown_set _ (w.heap.size + 1) 1 _)).trans (grown_set _ (w.heap.size + 1) 2 _)) (by simp; omega)
  · exact grown_set_new (grown_set_new (grown_set_new (unhide HG7) (by omega) _) (by omega) _) (by omega) _

end Go.Proofs.YthmhfilkgggagaaGreatDoor

namespace Go.Proofs.YthmhfilkgggagaaGreatDoor
open Go.RowKit Go.Maps Go.Sort

set_option maxRecDepth 100000 in
set_option maxHeartbeats 4000000 in
theorem levAdmit_any (l : List (Sl.Subj × Sl.Lim)) (tb mb n lb : Nat) (lv : Lv) (c : Nat) (org ten : List UInt8) (cost : Nat) (w : World) (R : Nat × Nat × Nat) (LV : Lv) (hR : admitS l lv (c, org, ten) cost = (R, LV))
    (hT : IsTable w tb mb n l) (hV : OwnsV w lb lv) (hv : OkV lv) (hfew : lv.length ≤ 1000) (hk : OkK (c, org, ten)) (hne : ten ≠ []) (hc0 : 1 ≤ cost) (hc : cost ≤ 1000000) (hpos : OkPos l) :
    Calls Tryz.prog 51 #[.map (some lb), .agg #[.int .i64 c, .string ⟨org.toArray⟩, .string ⟨ten.toArray⟩], .int .i64 cost, .func (.func 46) #[.pointer (some ⟨tb, 0, none⟩)] #[]] w fun e w' => e = .returned (.agg #[.int .i64 R.1, .int .i64 R.2.1, .int .i64 R.2.2]) ∧ OwnsV w' lb LV ∧ w.grownBy w' (some lb) := by
  obtain ⟨lo, hlo⟩ : ∃ lo, lo = limK l (c, org, []) := ⟨_, rfl⟩
  obtain ⟨lt, hlt⟩ : ∃ lt, lt = limK l (c, org, ten) := ⟨_, rfl⟩
  have hko : OkK (c, org, []) := ⟨hk.1, hk.2.1, by simp⟩
  have htb := hT.lt
  have hmb := hT.own.lt
  have hlb := hV.lt
  obtain ⟨O, hO⟩ : ∃ O : ByteArray, O = ⟨org.toArray⟩ := ⟨_, rfl⟩
  obtain ⟨T, hTT⟩ : ∃ T : ByteArray, T = ⟨ten.toArray⟩ := ⟨_, rfl⟩
  have HLO : Hid (∀ W As rb ob, Ad l tb mb n lb lv w w.heap.size rb ob c O T W As → Calls Tryz.prog 46 #[.pointer (some ⟨tb, 0, none⟩), .agg #[.int .i64 c, .string O, .string ⟨#[]⟩]] W fun e w' => e = .returned (.agg #[.int .i64 lo.rate, .int .i64 lo.burst]) ∧ Ad l tb mb n lb lv w w.heap.size rb ob c O T w' As) := hide (fun W As rb ob h => by
    have := tabLimit_any l tb mb n c org [] W h.table.map h.table.own h.table.ok.1 hko.1 hko.2.1 hko.2.2
    rw [hO, hlo]
    exact this.mono fun e w' ⟨h1, h2⟩ => ⟨h1, hO ▸ h.call h2⟩)
  have HLT : Hid (∀ W As rb ob, Ad l tb mb n lb lv w w.heap.size rb ob c O T W As → Calls Tryz.prog 46 #[.pointer (some ⟨tb, 0, none⟩), .agg #[.int .i64 c, .string O, .string T]] W fun e w' => e = .returned (.agg #[.int .i64 lt.rate, .int .i64 lt.burst]) ∧ Ad l tb mb n lb lv w w.heap.size rb ob c O T w' As) := hide (fun W As rb ob h => by
    have := tabLimit_any l tb mb n c org ten W h.table.map h.table.own h.table.ok.1 hk.1 hk.2.1 hk.2.2
    rw [hlt, hTT, hO]
    refine this.mono fun e w' ⟨h1, h2⟩ => ⟨h1, ?_⟩
    rw [hTT, hO] at h
    exact h.call h2)
  have horg := hide (fun W => organisation_any c org ten W)
  rw [← hO, ← hTT] at horg ⊢
  have HT := hide hT; have HV := hide hV; have HK := hide hk
  have hkt : ¬ T = ⟨#[]⟩ := by
    rw [hTT]; intro e; apply hne
    have := congrArg (fun x : ByteArray => x.data.toList) e
    simpa using this
  have HR := hide hR
  have HO := hide hO; have HTT := hide hTT
  have HL1 := hide hlo; have HL2 := hide hlt
  clear hT hV hk hR hO hTT hlo hlt
  go_enter Tryz.func51, Tryz.ntmps51
  go_wp2_with fail
  refine (unhide horg _).mono ?_
  rintro e w1 ⟨rfl, hb⟩
  obtain ⟨WA, hWA⟩ : ∃ WA, WA = w1.alloc (.cells #[.int .i64 c, .string O, .string ⟨#[]⟩] 118) := ⟨_, rfl⟩
  have hA0 : Ad l tb mb n lb lv w w.heap.size (w.heap.size + 1) w1.heap.size c O T WA [] := by
    have hb1 : Below w.heap.size w w1 := ((Below.alloc1 w (.cells #[.int .i64 c, .string O, .string T] 118)).alloc (by simp) (.cells #[.int .i64 0, .int .i64 0, .int .i64 0] 61)).trans (hb.mono (by simp; omega))
    have hk1 : Three w1 w.heap.size (.int .i64 c) (.string O) (.string T) := (((Three.made w (.int .i64 c) (.string O) (.string T) 118).keep (Below.alloc1 _ (.cells #[.int .i64 0, .int .i64 0, .int .i64 0] 61)) (by simp)).keep hb (by simp; omega))
    have hr1 : Three w1 (w.heap.size + 1) (.int .i64 0) (.int .i64 0) (.int .i64 0) := by
      have := Three.made (w.alloc (.cells #[.int .i64 c, .string O, .string T] 118)) (.int .i64 0) (.int .i64 0) (.int .i64 0) 61
      simp at this
      exact this.keep hb (by simp)
    have hba := Below.alloc1 w1 (.cells #[.int .i64 c, .string O, .string ⟨#[]⟩] 118)
    rw [hWA]
    exact ⟨((unhide HT).kept hb1).kept hba, (((unhide HV).kept (grown_below (row := none) hb1) (by simp)).kept (grown_below (row := none) hba) (by simp)), hk1.keep hba hk1.2.2.2.2.2.2, Three.made w1 _ _ _ _, hr1.keep hba hr1.2.2.2.2.2.2, hb1.trans (hba.mono hb1.size), fun a ha => (by cases ha), List.nodup_nil⟩
  have HWA := hide hWA
  clear hb hWA
  have hAd := hA0.drew
  have HA1 : Hid (∀ t, Ad l tb mb n lb lv w w.heap.size (w.heap.size + 1) w1.heap.size c O T (WA.drew.alloc (.cells #[.int .i64 0, .int .i64 0] t)) [WA.heap.size]) := hide (fun t => hAd.alloc t)
  have HA2 : Hid (∀ t t', Ad l tb mb n lb lv w w.heap.size (w.heap.size + 1) w1.heap.size c O T ((WA.drew.alloc (.cells #[.int .i64 0, .int .i64 0] t)).alloc (.cells #[.int .i64 0, .int .i64 0] t')) [WA.heap.size + 1, WA.heap.size]) := hide (fun t t' => hAd.alloc2 t t')
  go_wp2_with fail
  rw [← unhide HWA]
  refine Code.wp_mono (Q := fun e a w' => e = .normal ∧ ∃ A B, Ad2 l tb mb n lb lv w w.heap.size (w.heap.size + 1) w1.heap.size c O T lo lt w' A B ∧ a = admAct lb tb c cost A B w1.heap.size O T lo lt w) ?_ ?_
  · rintro e a w2 ⟨rfl, A, B, hA2, rfl⟩
    rename_i K hK
    simp only [Exit.then]
    refine hK _ _ ?_
    have hlr : lo.rate ≤ 1000000 ∧ lo.burst ≤ 1000000 := by rw [unhide HL1]; exact lim_rate (unhide HT).ok _
    have htr : lt.rate ≤ 1000000 ∧ lt.burst ≤ 1000000 := by rw [unhide HL2]; exact lim_rate (unhide HT).ok _
    have hlp : 0 < lo.rate ∧ 0 < lo.burst := by rw [unhide HL1]; exact lim_pos hpos _ hko.1
    have htp : 0 < lt.rate ∧ 0 < lt.burst := by rw [unhide HL2]; exact lim_pos hpos _ (unhide HK).1
    have hR2 := unhide HR
    unfold admitS at hR2
    simp only [] at hR2
    rw [← unhide HL1, ← unhide HL2] at hR2
    by_cases q1 : lo.burst < cost
    · rw [if_pos (.inl q1)] at hR2
      obtain ⟨rfl, rfl⟩ := Prod.mk.inj hR2
      exact adm_413a l tb mb n lb lv c cost w w2 _ A B O T lo lt hlb hA2 (by omega)
    · by_cases q2 : lt.burst < cost
      · rw [if_pos (.inr q2)] at hR2
        obtain ⟨rfl, rfl⟩ := Prod.mk.inj hR2
        exact adm_413b l tb mb n lb lv c cost w w2 _ A B O T lo lt hlb hA2 (by omega) (by omega)
      · rw [if_neg (by omega)] at hR2
        by_cases q3 : 64 < lv.length + emptyN lv [(c, org, []), (c, org, ten)]
        · rw [if_pos q3] at hR2
          obtain ⟨rfl, rfl⟩ := Prod.mk.inj hR2
          exact adm_503 l tb mb n lb lv c org ten cost w w2 _ A B O T lo lt hlb hA2 (unhide HO) (unhide HTT) hv hfew (unhide HK) (by omega) (by omega) q3
        · rw [if_neg q3] at hR2
          split at hR2
          · next q4 =>
            obtain ⟨rfl, rfl⟩ := Prod.mk.inj hR2
            exact adm_429 l tb mb n lb lv c org ten cost w w2 _ A B O T lo lt hlb hA2 (unhide HO) (unhide HTT) hv hfew (unhide HK) hlr htr hlp htp hc (by omega) (by omega) q3 _ rfl q4 _ rfl
          · next q4 =>
            obtain ⟨rfl, rfl⟩ := Prod.mk.inj hR2
            exact adm_204 l tb mb n lb lv c org ten cost w w2 _ A B O T lo lt hlb hA2 (unhide HO) (unhide HTT) hv hfew (unhide HK) hlr htr hlp htp hc hc0 hne (by omega) (by omega) q3 _ rfl q4
  · obtain ⟨k0, k1, k2, -, -, -, kn⟩ := hA0.key
    obtain ⟨o0, o1, o2, -, -, -, on⟩ := hA0.okey
    go_region_held3 (fun w' => w'.cell? ⟨w.heap.size, 0, none⟩ = some (.int .i64 c) ∧ w'.cell? ⟨w.heap.size, 1, none⟩ = some (.string O) ∧ w'.cell? ⟨w.heap.size, 2, none⟩ = some (.string T) ∧ w'.cell? ⟨w1.heap.size, 0, none⟩ = some (.int .i64 c) ∧ w'.cell? ⟨w1.heap.size, 1, none⟩ = some (.string O) ∧ w'.cell? ⟨w1.heap.size, 2, none⟩ = some (.string ⟨#[]⟩)) (go_keep)
      (first
        | (go_at_call_of 46 (Value.agg #[Value.int IntKind.i64 (c : Int), Value.string O, Value.string ⟨#[]⟩]); refine (unhide HLO _ _ _ _ (by first | exact hAd | exact unhide HA1 _ | exact unhide HA2 _ _)).mono ?_; rintro e w2 ⟨rfl, hA1⟩; obtain ⟨p0, p1, p2, -, -, -, pn⟩ := hA1.key; obtain ⟨q0, q1, q2, -, -, -, qn⟩ := hA1.okey; (try obtain ⟨a0, a1, a2, a3, a4, ⟨-, -, -, -⟩, a5, a6, a7⟩ := hA1.first); (try obtain ⟨b0, b1, b2, b3, b4, ⟨-, -, -, -⟩, ⟨b5, b6, b7⟩, b8, b9⟩ := hA1.second))
        | (go_at_call_of 46 (Value.agg #[Value.int IntKind.i64 (c : Int), Value.string O, Value.string T]); refine (unhide HLT _ _ _ _ (by first | exact hA1 | exact hA1.alloc _ | exact hA1.alloc2 _ _)).mono ?_; rintro e w3 ⟨rfl, hA2⟩; obtain ⟨r0, r1, r2, -, -, -, rn⟩ := hA2.key; obtain ⟨s0, s1, s2, -, -, -, sn⟩ := hA2.okey; (try obtain ⟨c0, c1, c2, c3, c4, ⟨cx0, cx1, cx2, cx3⟩, c5, c6, c7⟩ := hA2.first); (try obtain ⟨d0, d1, d2, d3, d4, ⟨dx0, dx1, dx2, dx3⟩, ⟨d5, d6, d7⟩, d8, d9⟩ := hA2.second)))
    all_goals
      refine ⟨rfl, ?_⟩
      first
        | exact ⟨_, _, hA2.after lo lt _ _, rfl⟩
        | exact ⟨_, _, hA2.after' lo lt _ _, rfl⟩
        | exact ⟨_, _, hA2.written (by simp) htb hmb hlb lo lt _, rfl⟩
        | exact ⟨_, _, hA2.written' (by simp) htb hmb hlb lo lt _, rfl⟩
        | exact ⟨_, _, hA2.pair htb hmb hlb lo lt, rfl⟩
        | exact ⟨_, _, hA2.pair' htb hmb hlb lo lt, rfl⟩

end Go.Proofs.YthmhfilkgggagaaGreatDoor
