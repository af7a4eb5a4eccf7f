/-
  readOwner and readSubject: what a line's words ahead of its rate and burst speak of.
  readOwner at every list of words.
-/
import Derived.Test.YthmhfilkgggagaaGreatDoorBase
import Derived.Deep.RegionWith
namespace Go.Proofs.YthmhfilkgggagaaGreatDoor
open Go.RowKit

set_option maxHeartbeats 400000 in
theorem readOwner_other (n cap : Nat) (a : Option Addr) (c : Int) (w : World) (hn2 : ((n : Int) == 2) = false) (hn3 : ((n : Int) == 3) = false) :
    Calls Tryz.prog 200 #[.slice a n cap, .int .i64 c] w fun e w' => e = .returned (.tuple #[subjV noSubj, .bool false]) ∧ Below w.heap.size w w' := by
  go_enter Tryz.func200, Tryz.ntmps200
  go_wp2
  exact bodyPost_ret (v := .tuple #[subjV noSubj, .bool false]) (by simp [results, Tryz.results200, go_sem, subjV, noSubj]) rfl ⟨rfl, (Below.refl _ _).alloc (Nat.le_refl _) _⟩

set_option maxHeartbeats 400000 in
/-- Two words: 'default org', 'default tenant', 'org NAME'. -/
theorem readOwner_default (x y : ByteArray) (b off cap : Nat) (c k : Nat) (w : World) (h0 : w.cell? ⟨b, off, none⟩ = some (.string x)) (h1 : w.cell? ⟨b, off + 1, none⟩ = some (.string y))
    (hx : (x.toList == [100, 101, 102, 97, 117, 108, 116]) = true) (hy : (k = 0 ∧ (y.toList == [111, 114, 103]) = true) ∨ (k = 1 ∧ (y.toList == [111, 114, 103]) = false ∧ (y.toList == [116, 101, 110, 97, 110, 116]) = true)) :
    Calls Tryz.prog 200 #[.slice (some ⟨b, off, none⟩) 2 cap, .int .i64 c] w fun e w' => e = .returned (.tuple #[subjV ⟨k, c, [], []⟩, .bool true]) ∧ Below w.heap.size w w' := by
  have hb := cell_lt h0
  have g0 : ∀ o, (w.alloc o).cell? ⟨b, off, none⟩ = some (.string x) := fun o => by rw [World.cell?_alloc_past _ _ _ hb]; exact h0
  have g1 : ∀ o, (w.alloc o).cell? ⟨b, off + 1, none⟩ = some (.string y) := fun o => by rw [World.cell?_alloc_past _ _ _ hb]; exact h1
  rcases hy with ⟨rfl, hy⟩ | ⟨rfl, hy, hy2⟩
  · go_enter Tryz.func200, Tryz.ntmps200
    go_wp2
    exact bodyPost_ret (v := .tuple #[subjV ⟨0, c, [], []⟩, .bool true]) (by simp [results, Tryz.results200, go_sem, subjV]) rfl ⟨rfl, (Below.refl _ _).alloc (Nat.le_refl _) _⟩
  · go_enter Tryz.func200, Tryz.ntmps200
    go_wp2
    exact bodyPost_ret (v := .tuple #[subjV ⟨1, c, [], []⟩, .bool true]) (by simp [results, Tryz.results200, go_sem, subjV]) rfl ⟨rfl, (Below.refl _ _).alloc (Nat.le_refl _) _⟩

theorem isName_yes (s : ByteArray) (w : World) (h : Sl.isName s.data.toList = true) :
    Calls Tryz.prog 72 #[.string s] w fun e w' => e = .returned (.bool true) ∧ Below w.heap.size w w' := by
  have := isName_any s w; rw [h] at this; exact this
theorem isName_no (s : ByteArray) (w : World) (h : Sl.isName s.data.toList = false) :
    Calls Tryz.prog 72 #[.string s] w fun e w' => e = .returned (.bool false) ∧ Below w.heap.size w w' := by
  have := isName_any s w; rw [h] at this; exact this

theorem ofBytes (s : ByteArray) : (⟨s.data.toList.toArray⟩ : ByteArray) = s := by cases s; simp

set_option maxHeartbeats 400000 in
theorem readOwner_org (x y : ByteArray) (b off cap : Nat) (c : Nat) (w : World) (h0 : w.cell? ⟨b, off, none⟩ = some (.string x)) (h1 : w.cell? ⟨b, off + 1, none⟩ = some (.string y))
    (hx0 : (x.toList == [100, 101, 102, 97, 117, 108, 116]) = false) (hx : (x.toList == [111, 114, 103]) = true) (hy : Sl.isName y.data.toList = true) (hys : y.size ≤ 2000) :
    Calls Tryz.prog 200 #[.slice (some ⟨b, off, none⟩) 2 cap, .int .i64 c] w fun e w' => e = .returned (.tuple #[subjV ⟨2, c, y.data.toList, []⟩, .bool true]) ∧ Below w.heap.size w w' := by
  have hb := cell_lt h0
  have g0 : ∀ o, (w.alloc o).cell? ⟨b, off, none⟩ = some (.string x) := fun o => by rw [World.cell?_alloc_past _ _ _ hb]; exact h0
  have g1 : ∀ o, (w.alloc o).cell? ⟨b, off + 1, none⟩ = some (.string y) := fun o => by rw [World.cell?_alloc_past _ _ _ hb]; exact h1
  have HY := hide hy; clear hy
  go_enter Tryz.func200, Tryz.ntmps200
  go_wp2_with fail
  refine (isName_yes _ _ (unhide HY)).mono ?_; rintro e w1 ⟨rfl, hb1⟩
  obtain ⟨c1, f1⟩ := bcell hb1
  have k1 : w1.cell? ⟨b, off + 1, none⟩ = some (.string y) := by rw [c1 _ _ (by simp; omega)]; exact g1 _
  have z1 : w.heap.size < w1.heap.size := by have := hb1.size; simp at this; omega
  go_wp2_with fail
  refine (clone_any _ _ hys).mono ?_; rintro e w2 ⟨rfl, hb2⟩
  obtain ⟨c2, f2⟩ := bcell hb2
  have z2 : w.heap.size < w2.heap.size := by have := hb2.size; omega
  go_wp2
  refine bodyPost_ret (v := .tuple #[subjV ⟨2, c, y.data.toList, []⟩, .bool true]) (by simp [results, Tryz.results200, go_sem, subjV, c1, c2, z1]) rfl ⟨rfl, ?_⟩
  have e1 : Below w.heap.size w w2 := (((Below.refl _ _).alloc (Nat.le_refl _) _).trans (hb1.mono (by simp))).trans (hb2.mono (by omega))
  exact (((e1.setCell (Nat.le_refl _) _).setCell (Nat.le_refl _) _).setCell (Nat.le_refl _) _).setCell (Nat.le_refl _) _

set_option maxHeartbeats 400000 in
/-- Two words that speak of nothing. -/
theorem readOwner_two_no (x y : ByteArray) (b off cap : Nat) (c : Nat) (w : World) (h0 : w.cell? ⟨b, off, none⟩ = some (.string x)) (h1 : w.cell? ⟨b, off + 1, none⟩ = some (.string y))
    (hx : ((x.toList == [100, 101, 102, 97, 117, 108, 116]) = true ∧ (x.toList == [111, 114, 103]) = false ∧ (y.toList == [111, 114, 103]) = false ∧ (y.toList == [116, 101, 110, 97, 110, 116]) = false)
      ∨ ((x.toList == [100, 101, 102, 97, 117, 108, 116]) = false ∧ (x.toList == [111, 114, 103]) = false) ∨ ((x.toList == [100, 101, 102, 97, 117, 108, 116]) = false ∧ (x.toList == [111, 114, 103]) = true ∧ Sl.isName y.data.toList = false)) :
    Calls Tryz.prog 200 #[.slice (some ⟨b, off, none⟩) 2 cap, .int .i64 c] w fun e w' => e = .returned (.tuple #[subjV noSubj, .bool false]) ∧ Below w.heap.size w w' := by
  have hb := cell_lt h0
  have g0 : ∀ o, (w.alloc o).cell? ⟨b, off, none⟩ = some (.string x) := fun o => by rw [World.cell?_alloc_past _ _ _ hb]; exact h0
  have g1 : ∀ o, (w.alloc o).cell? ⟨b, off + 1, none⟩ = some (.string y) := fun o => by rw [World.cell?_alloc_past _ _ _ hb]; exact h1
  rcases hx with ⟨a1, a2, a3, a4⟩ | ⟨a1, a2⟩ | ⟨a1, a2, a3⟩
  · go_enter Tryz.func200, Tryz.ntmps200
    go_wp2
    exact bodyPost_ret (v := .tuple #[subjV noSubj, .bool false]) (by simp [results, Tryz.results200, go_sem, subjV, noSubj]) rfl ⟨rfl, (Below.refl _ _).alloc (Nat.le_refl _) _⟩
  · go_enter Tryz.func200, Tryz.ntmps200
    go_wp2
    exact bodyPost_ret (v := .tuple #[subjV noSubj, .bool false]) (by simp [results, Tryz.results200, go_sem, subjV, noSubj]) rfl ⟨rfl, (Below.refl _ _).alloc (Nat.le_refl _) _⟩
  · have HY := hide a3; clear a3
    go_enter Tryz.func200, Tryz.ntmps200
    go_wp2_with fail
    refine (isName_no _ _ (unhide HY)).mono ?_; rintro e w1 ⟨rfl, hb1⟩
    obtain ⟨c1, f1⟩ := bcell hb1
    have z1 : w.heap.size < w1.heap.size := by have := hb1.size; simp at this; omega
    go_wp2
    refine bodyPost_ret (v := .tuple #[subjV noSubj, .bool false]) (by simp [results, Tryz.results200, go_sem, subjV, noSubj, c1]) rfl ⟨rfl, ?_⟩
    have e1 : Below w.heap.size w w1 := ((Below.refl _ _).alloc (Nat.le_refl _) _).trans (hb1.mono (by simp))
    exact (((e1.setCell (Nat.le_refl _) _).setCell (Nat.le_refl _) _).setCell (Nat.le_refl _) _).setCell (Nat.le_refl _) _

set_option maxHeartbeats 800000 in
theorem readOwner_three (x y z : ByteArray) (b off cap : Nat) (c : Nat) (w : World) (h0 : w.cell? ⟨b, off, none⟩ = some (.string x)) (h1 : w.cell? ⟨b, off + 1, none⟩ = some (.string y)) (h2 : w.cell? ⟨b, off + 2, none⟩ = some (.string z))
    (hx : (x.toList == [116, 101, 110, 97, 110, 116]) = true) (hy : Sl.isName y.data.toList = true) (hz : Sl.isName z.data.toList = true) (hys : y.size ≤ 2000) (hzs : z.size ≤ 2000) :
    Calls Tryz.prog 200 #[.slice (some ⟨b, off, none⟩) 3 cap, .int .i64 c] w fun e w' => e = .returned (.tuple #[subjV ⟨3, c, y.data.toList, z.data.toList⟩, .bool true]) ∧ Below w.heap.size w w' := by
  have hb := cell_lt h0
  have g0 : ∀ o, (w.alloc o).cell? ⟨b, off, none⟩ = some (.string x) := fun o => by rw [World.cell?_alloc_past _ _ _ hb]; exact h0
  have g1 : ∀ o, (w.alloc o).cell? ⟨b, off + 1, none⟩ = some (.string y) := fun o => by rw [World.cell?_alloc_past _ _ _ hb]; exact h1
  have g2 : ∀ o, (w.alloc o).cell? ⟨b, off + 2, none⟩ = some (.string z) := fun o => by rw [World.cell?_alloc_past _ _ _ hb]; exact h2
  have HY := hide hy; have HZ := hide hz; clear hy hz
  go_enter Tryz.func200, Tryz.ntmps200
  go_wp2_with fail
  refine (isName_yes _ _ (unhide HY)).mono ?_; rintro e w1 ⟨rfl, hb1⟩
  obtain ⟨c1, f1⟩ := bcell hb1
  have k1 : w1.cell? ⟨b, off + 1, none⟩ = some (.string y) := by rw [c1 _ _ (by simp; omega)]; exact g1 _
  have k2 : w1.cell? ⟨b, off + 2, none⟩ = some (.string z) := by rw [c1 _ _ (by simp; omega)]; exact g2 _
  have z1 : w.heap.size < w1.heap.size := by have := hb1.size; simp at this; omega
  go_wp2_with fail
  refine (isName_yes _ _ (unhide HZ)).mono ?_; rintro e w2 ⟨rfl, hb2⟩
  obtain ⟨c2, f2⟩ := bcell hb2
  have m1 : w2.cell? ⟨b, off + 1, none⟩ = some (.string y) := by rw [c2 _ _ (by omega)]; exact k1
  have m2 : w2.cell? ⟨b, off + 2, none⟩ = some (.string z) := by rw [c2 _ _ (by omega)]; exact k2
  have z2 : w.heap.size < w2.heap.size := by have := hb2.size; omega
  have q1 := hide (Four.keep (Four.made w (.int .i64 0) (.int .i64 0) (.string ⟨#[]⟩) (.string ⟨#[]⟩) 151) hb1)
  have q2 := hide (Four.keep (unhide q1) hb2)
  clear c1 f1 c2 f2
  go_wp2_with fail
  go_region_with (first
    | (go_at_call_of 70 (Value.string y); refine (clone_any y _ ?_).mono ?_; exact hys; rintro e w3 ⟨rfl, hb3⟩; have q3 := hide (Four.keep (Four.drew (unhide q2)) hb3); have n2 : w3.cell? ⟨b, off + 2, none⟩ = some (.string z) := ((bcell hb3).1 _ _ (by have := hb2.size; show b < w2.heap.size; omega)).trans m2)
    | (go_at_call_of 70 (Value.string z); refine (clone_any z _ ?_).mono ?_; exact hzs; rintro e w4 ⟨rfl, hb4⟩; obtain ⟨d0, d1, d2, d3, f0, f1, f2, f3, dn⟩ := Four.keep (unhide q3) hb4))
  all_goals
    go_wp2
    refine bodyPost_ret (v := .tuple #[subjV ⟨3, c, y.data.toList, z.data.toList⟩, .bool true]) (by simp [results, Tryz.results200, go_sem, subjV, d0, d1, d2, d3]) rfl ⟨rfl, ?_⟩
    have e1 : Below w.heap.size w w4 := ((((Below.refl _ _).alloc (Nat.le_refl _) _).trans (hb1.mono (by simp))).trans (hb2.mono (Nat.le_of_lt z1))).trans ((Below.drew (Below.refl _ _)).trans ((hb3.mono (Nat.le_of_lt z2)).trans (hb4.mono (Nat.le_of_lt (unhide q3).2.2.2.2.2.2.2.2))))
    exact (((e1.setCell (Nat.le_refl _) _).setCell (Nat.le_refl _) _).setCell (Nat.le_refl _) _).setCell (Nat.le_refl _) _

end Go.Proofs.YthmhfilkgggagaaGreatDoor

namespace Go.Proofs.YthmhfilkgggagaaGreatDoor
open Go.RowKit

set_option maxHeartbeats 400000 in
/-- Three words that speak of nothing. -/
theorem readOwner_three_no (x y z : ByteArray) (b off cap : Nat) (c : Nat) (w : World) (h0 : w.cell? ⟨b, off, none⟩ = some (.string x)) (h1 : w.cell? ⟨b, off + 1, none⟩ = some (.string y)) (h2 : w.cell? ⟨b, off + 2, none⟩ = some (.string z))
    (hx : (x.toList == [116, 101, 110, 97, 110, 116]) = false ∨ ((x.toList == [116, 101, 110, 97, 110, 116]) = true ∧ Sl.isName y.data.toList = false) ∨ ((x.toList == [116, 101, 110, 97, 110, 116]) = true ∧ Sl.isName y.data.toList = true ∧ Sl.isName z.data.toList = false)) :
    Calls Tryz.prog 200 #[.slice (some ⟨b, off, none⟩) 3 cap, .int .i64 c] w fun e w' => e = .returned (.tuple #[subjV noSubj, .bool false]) ∧ Below w.heap.size w w' := by
  have hb := cell_lt h0
  have g0 : ∀ o, (w.alloc o).cell? ⟨b, off, none⟩ = some (.string x) := fun o => by rw [World.cell?_alloc_past _ _ _ hb]; exact h0
  have g1 : ∀ o, (w.alloc o).cell? ⟨b, off + 1, none⟩ = some (.string y) := fun o => by rw [World.cell?_alloc_past _ _ _ hb]; exact h1
  have g2 : ∀ o, (w.alloc o).cell? ⟨b, off + 2, none⟩ = some (.string z) := fun o => by rw [World.cell?_alloc_past _ _ _ hb]; exact h2
  rcases hx with a1 | ⟨a1, hy⟩ | ⟨a1, hy, hz⟩
  · go_enter Tryz.func200, Tryz.ntmps200
    go_wp2
    exact bodyPost_ret (v := .tuple #[subjV noSubj, .bool false]) (by simp [results, Tryz.results200, go_sem, subjV, noSubj]) rfl ⟨rfl, (Below.refl _ _).alloc (Nat.le_refl _) _⟩
  · have HY := hide hy; clear hy
    go_enter Tryz.func200, Tryz.ntmps200
    go_wp2_with fail
    refine (isName_no _ _ (unhide HY)).mono ?_; rintro e w1 ⟨rfl, hb1⟩
    obtain ⟨c1, f1⟩ := bcell hb1
    have z1 : w.heap.size < w1.heap.size := by have := hb1.size; simp at this; omega
    go_wp2
    refine bodyPost_ret (v := .tuple #[subjV noSubj, .bool false]) (by simp [results, Tryz.results200, go_sem, subjV, noSubj, c1]) rfl ⟨rfl, ?_⟩
    have e1 : Below w.heap.size w w1 := ((Below.refl _ _).alloc (Nat.le_refl _) _).trans (hb1.mono (by simp))
    exact (((e1.setCell (Nat.le_refl _) _).setCell (Nat.le_refl _) _).setCell (Nat.le_refl _) _).setCell (Nat.le_refl _) _
  · have HY := hide hy; have HZ := hide hz; clear hy hz
    go_enter Tryz.func200, Tryz.ntmps200
    go_wp2_with fail
    refine (isName_yes _ _ (unhide HY)).mono ?_; rintro e w1 ⟨rfl, hb1⟩
    obtain ⟨c1, f1⟩ := bcell hb1
    have k2 : w1.cell? ⟨b, off + 2, none⟩ = some (.string z) := by rw [c1 _ _ (by simp; omega)]; exact g2 _
    have z1 : w.heap.size < w1.heap.size := by have := hb1.size; simp at this; omega
    go_wp2_with fail
    refine (isName_no _ _ (unhide HZ)).mono ?_; rintro e w2 ⟨rfl, hb2⟩
    obtain ⟨c2, f2⟩ := bcell hb2
    go_wp2
    refine bodyPost_ret (v := .tuple #[subjV noSubj, .bool false]) (by simp [results, Tryz.results200, go_sem, subjV, noSubj, c1, c2, z1]) rfl ⟨rfl, ?_⟩
    have e1 : Below w.heap.size w w2 := (((Below.refl _ _).alloc (Nat.le_refl _) _).trans (hb1.mono (by simp))).trans (hb2.mono (Nat.le_of_lt z1))
    exact (((e1.setCell (Nat.le_refl _) _).setCell (Nat.le_refl _) _).setCell (Nat.le_refl _) _).setCell (Nat.le_refl _) _

/-- A list of strings in memory. -/
def StrsAt (w : World) (b off : Nat) (l : List ByteArray) : Prop := ∀ i (h : i < l.length), w.cell? ⟨b, off + i, none⟩ = some (.string l[i])

def datas (l : List ByteArray) : List (List UInt8) := l.map (·.data.toList)

theorem StrsAt.below {w w' : World} {b off : Nat} {l : List ByteArray} (h : StrsAt w b off l) {B : Nat} (hb : Below B w w') (hB : b < B) : StrsAt w' b off l :=
  fun i hi => (hb.cell (p := ⟨b, off + i, none⟩) hB).trans (h i hi)

theorem readOwner_any (l : List ByteArray) (b off cap c : Nat) (w : World) (hl : StrsAt w b off l) (hs : ∀ s ∈ l, s.size ≤ 2000) :
    Calls Tryz.prog 200 #[.slice (some ⟨b, off, none⟩) l.length cap, .int .i64 c] w fun e w' => e = .returned (.tuple #[subjV ((Sl.owner (datas l) c).getD noSubj), .bool (Sl.owner (datas l) c).isSome]) ∧ Below w.heap.size w w' := by
  match l, hl, hs with
  | [x, y], hl, hs =>
    have h0 : w.cell? ⟨b, off, none⟩ = some (.string x) := hl 0 (by simp)
    have h1 : w.cell? ⟨b, off + 1, none⟩ = some (.string y) := hl 1 (by simp)
    have eo : Sl.owner (datas [x, y]) c = if x.data.toList = Sl.defaultW ∧ y.data.toList = Sl.orgW then some ⟨0, c, [], []⟩ else if x.data.toList = Sl.defaultW ∧ y.data.toList = Sl.tenantW then some ⟨1, c, [], []⟩ else if x.data.toList = Sl.orgW ∧ Sl.isName y.data.toList = true then some ⟨2, c, y.data.toList, []⟩ else none := rfl
    rw [eo]
    by_cases hx : x.data.toList = Sl.defaultW
    · have tx : (x.toList == [100, 101, 102, 97, 117, 108, 116]) = true := by rw [Sl.str_eql]; exact decide_eq_true hx
      have nx : ¬ x.data.toList = Sl.orgW := by rw [hx]; decide
      have tx2 : (x.toList == [111, 114, 103]) = false := by rw [Sl.str_eql]; exact decide_eq_false nx
      by_cases hy : y.data.toList = Sl.orgW
      · have ty : (y.toList == [111, 114, 103]) = true := by rw [Sl.str_eql]; exact decide_eq_true hy
        rw [if_pos ⟨hx, hy⟩]
        exact readOwner_default x y b off cap c 0 w h0 h1 tx (.inl ⟨rfl, ty⟩)
      · have ty : (y.toList == [111, 114, 103]) = false := by rw [Sl.str_eql]; exact decide_eq_false hy
        rw [if_neg (fun e => hy e.2)]
        by_cases hy2 : y.data.toList = Sl.tenantW
        · have ty2 : (y.toList == [116, 101, 110, 97, 110, 116]) = true := by rw [Sl.str_eql]; exact decide_eq_true hy2
          rw [if_pos ⟨hx, hy2⟩]
          exact readOwner_default x y b off cap c 1 w h0 h1 tx (.inr ⟨rfl, ty, ty2⟩)
        · have ty2 : (y.toList == [116, 101, 110, 97, 110, 116]) = false := by rw [Sl.str_eql]; exact decide_eq_false hy2
          rw [if_neg (fun e => hy2 e.2), if_neg (fun e => nx e.1)]
          exact readOwner_two_no x y b off cap c w h0 h1 (.inl ⟨tx, tx2, ty, ty2⟩)
    · have tx : (x.toList == [100, 101, 102, 97, 117, 108, 116]) = false := by rw [Sl.str_eql]; exact decide_eq_false hx
      rw [if_neg (fun e => hx e.1), if_neg (fun e => hx e.1)]
      by_cases hx2 : x.data.toList = Sl.orgW
      · have tx2 : (x.toList == [111, 114, 103]) = true := by rw [Sl.str_eql]; exact decide_eq_true hx2
        by_cases hy : Sl.isName y.data.toList = true
        · rw [if_pos ⟨hx2, hy⟩]
          exact readOwner_org x y b off cap c w h0 h1 tx tx2 hy (hs y (by simp))
        · rw [if_neg (fun e => hy e.2)]
          exact readOwner_two_no x y b off cap c w h0 h1 (.inr (.inr ⟨tx, tx2, by simpa using hy⟩))
      · have tx2 : (x.toList == [111, 114, 103]) = false := by rw [Sl.str_eql]; exact decide_eq_false hx2
        rw [if_neg (fun e => hx2 e.1)]
        exact readOwner_two_no x y b off cap c w h0 h1 (.inr (.inl ⟨tx, tx2⟩))
  | [x, y, z], hl, hs =>
    have h0 : w.cell? ⟨b, off, none⟩ = some (.string x) := hl 0 (by simp)
    have h1 : w.cell? ⟨b, off + 1, none⟩ = some (.string y) := hl 1 (by simp)
    have h2 : w.cell? ⟨b, off + 2, none⟩ = some (.string z) := hl 2 (by simp)
    have eo : Sl.owner (datas [x, y, z]) c = if x.data.toList = Sl.tenantW ∧ Sl.isName y.data.toList = true ∧ Sl.isName z.data.toList = true then some ⟨3, c, y.data.toList, z.data.toList⟩ else none := rfl
    rw [eo]
    by_cases hx : x.data.toList = Sl.tenantW
    · have tx : (x.toList == [116, 101, 110, 97, 110, 116]) = true := by rw [Sl.str_eql]; exact decide_eq_true hx
      by_cases hy : Sl.isName y.data.toList = true
      · by_cases hz : Sl.isName z.data.toList = true
        · rw [if_pos ⟨hx, hy, hz⟩]
          exact readOwner_three x y z b off cap c w h0 h1 h2 tx hy hz (hs y (by simp)) (hs z (by simp))
        · rw [if_neg (fun e => hz e.2.2)]
          exact readOwner_three_no x y z b off cap c w h0 h1 h2 (.inr (.inr ⟨tx, hy, by simpa using hz⟩))
      · rw [if_neg (fun e => hy e.2.1)]
        exact readOwner_three_no x y z b off cap c w h0 h1 h2 (.inr (.inl ⟨tx, by simpa using hy⟩))
    · have tx : (x.toList == [116, 101, 110, 97, 110, 116]) = false := by rw [Sl.str_eql]; exact decide_eq_false hx
      rw [if_neg (fun e => hx e.1)]
      exact readOwner_three_no x y z b off cap c w h0 h1 h2 (.inl tx)
  | [], _, _ => exact readOwner_other 0 cap _ c w (by decide) (by decide)
  | [_], _, _ => exact readOwner_other 1 cap _ c w (by decide) (by decide)
  | a :: b' :: d :: e' :: r, _, _ =>
    have e1 : Sl.owner (datas (a :: b' :: d :: e' :: r)) c = none := rfl
    rw [e1]
    exact readOwner_other _ cap _ c w (by rw [beq_eq_false_iff_ne]; simp; omega) (by rw [beq_eq_false_iff_ne]; simp; omega)

end Go.Proofs.YthmhfilkgggagaaGreatDoor
