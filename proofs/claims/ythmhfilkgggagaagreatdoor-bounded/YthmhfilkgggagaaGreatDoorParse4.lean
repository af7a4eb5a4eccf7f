/-
  Plain: what New reads of a plan's text, of the same text turned about, of one with a line too many.
-/
import Derived.Test.YthmhfilkgggagaaGreatDoorParse3
namespace Go.Proofs.YthmhfilkgggagaaGreatDoor
open Go.RowKit Go.Maps Go.Sort

def lns (p : Nat → Sl.Lim) : List (List UInt8) := (entries p).map lineB

theorem ent_ok {p : Nat → Sl.Lim} (h : OkP 2 p) : ∀ x ∈ entries p, OkE x := by
  intro x hx
  obtain ⟨i, hi, rfl⟩ := List.mem_map.1 hx
  obtain ⟨h1, h2⟩ := places_mem.1 hi
  refine ⟨okN_at i h1, ?_⟩
  rcases h.2 i with g | g
  · exact g
  · rw [g] at h2; exact absurd h2 (by decide)

theorem plan_flat {p : Nat → Sl.Lim} (h : OkP 2 p) : upD p 2 = flat (lns p) := by
  rw [text_plan h]
  simp [flat, lns, entries, List.flatMap_map, lineText_eq]

theorem jn_mem : ∀ (ws : List (List UInt8)) (x : UInt8), x ∈ jn ws → x = 32 ∨ ∃ w ∈ ws, x ∈ w
  | [], x, h => by simp [jn] at h
  | [w], x, h => .inr ⟨w, by simp, h⟩
  | w :: v :: r, x, h => by
    have h' : x ∈ w ++ 32 :: jn (v :: r) := h
    rcases List.mem_append.1 h' with h | h
    · exact .inr ⟨w, by simp, h⟩
    · rcases List.mem_cons.1 h with h | h
      · exact .inl h
      · rcases jn_mem (v :: r) x h with h | ⟨u, hu, hx⟩
        · exact .inl h
        · exact .inr ⟨u, by simp at hu ⊢; right; exact hu, hx⟩

theorem jn_last : ∀ (ws : List (List UInt8)) (d : List UInt8), d ≠ [] → (jn (ws ++ [d])).getLast? = d.getLast?
  | [], d, _ => rfl
  | [w], d, hd => by
    show (w ++ 32 :: d).getLast? = _
    rw [List.getLast?_append, List.getLast?_cons]
    cases d with
    | nil => exact absurd rfl hd
    | cons a r => simp [List.getLast?_cons]
  | w :: v :: r, d, hd => by
    have ih := jn_last (v :: r) d hd
    show (w ++ 32 :: jn ((v :: r) ++ [d])).getLast? = _
    rw [List.getLast?_append, List.getLast?_cons, ih]
    cases d with
    | nil => exact absurd rfl hd
    | cons a r => simp [List.getLast?_cons]

theorem line_ok2 {x : Sl.Subj × Sl.Lim} (h : OkE x) : LineOk (lineB x) := by
  obtain ⟨y, t, e, hy⟩ := dec_head x.2.burst h.2.2.1
  have hl : (lineB x).getLast? = (Lib.decDigits x.2.burst).getLast? := by
    unfold lineB lineW
    have e2 : frontW x.1 ++ [Lib.decDigits x.2.rate, Lib.decDigits x.2.burst] = (frontW x.1 ++ [Lib.decDigits x.2.rate]) ++ [Lib.decDigits x.2.burst] := by simp
    rw [e2, jn_last _ _ (by rw [e]; simp)]
  refine ⟨?_, ?_, ?_⟩
  · intro e0
    rw [e0, e] at hl
    simp [List.getLast?_cons] at hl
  · intro c hc
    rcases jn_mem _ c hc with rfl | ⟨w, hw, hcw⟩
    · decide
    · exact ((h.words w hw).2 c hcw).2
  · rw [hl]
    intro e3
    have h3 := dec_mem x.2.burst 32 (List.mem_of_getLast? e3)
    exact absurd h3 (by decide)

theorem lns_ok {p : Nat → Sl.Lim} (h : OkP 2 p) : ∀ l ∈ lns p, LineOk l := by
  intro l hl
  obtain ⟨x, hx, rfl⟩ := List.mem_map.1 hl
  exact line_ok2 (ent_ok h x hx)

theorem zw_len (w : List UInt8) : (zw w).length ≤ w.length + 1 := by
  cases w with
  | nil => simp [zw]
  | cons y t => rw [zw_cons]; split <;> simp

theorem jn_len_head (w v : List UInt8) (r : List (List UInt8)) (h : v.length ≤ w.length + 1) : (jn (v :: r)).length ≤ (jn (w :: r)).length + 1 := by
  cases r with
  | nil => exact h
  | cons u r => show (v ++ 32 :: jn (u :: r)).length ≤ (w ++ 32 :: jn (u :: r)).length + 1; simp; omega

theorem expand_jn_len : ∀ (r : List (List UInt8)) (w : List UInt8), WordOk w → (∀ x ∈ r, WordOk x) → (expand (jn (w :: r))).length ≤ (jn (w :: r)).length + 3 * r.length
  | [], w, hw, _ => by
    have e := expand_app w [] (fun x hx => (hw.2 x hx).1)
    simp only [List.append_nil, expand] at e
    show (expand w).length ≤ w.length + _
    rw [e]; omega
  | v :: r, w, hw, hr => by
    have ih := expand_jn_len r (zw v) (zw_ok (hr v (by simp))) (fun x hx => hr x (by simp [hx]))
    have h2 := jn_len_head v (zw v) r (zw_len v)
    show (expand (w ++ 32 :: jn (v :: r))).length ≤ (w ++ 32 :: jn (v :: r)).length + _
    rw [expand_app w _ (fun x hx => (hw.2 x hx).1), expand_blank v r (hr v (by simp))]
    simp
    omega

theorem frontW_len (s : Sl.Subj) : (frontW s).length ≤ 4 := by
  unfold frontW; split <;> (try split) <;> (try split) <;> simp

theorem expand_line_len {x : Sl.Subj × Sl.Lim} (h : OkE x) : (expand (lineB x)).length ≤ (lineB x).length + 15 := by
  obtain ⟨w, r, e, _⟩ := h.head
  have hw := h.words
  have hf := frontW_len x.1
  have hl : (lineW x).length ≤ 6 := by unfold lineW; simp; omega
  unfold lineB
  rw [e] at hw hl ⊢
  have := expand_jn_len r w (hw w (by simp)) (fun y hy => hw y (by simp [hy]))
  simp at hl
  omega

theorem trn_len : ∀ (es : List (Sl.Subj × Sl.Lim)), (∀ x ∈ es, OkE x) → (trn (es.map lineB)).length ≤ (flat (es.map lineB)).length + 20 * es.length
  | [], _ => by simp [trn, flat]
  | x :: r, h => by
    have ih := trn_len r (fun y hy => h y (by simp [hy]))
    have h1 := expand_line_len (h x (by simp))
    have e1 : (trn ((x :: r).map lineB)).length = (trn (r.map lineB)).length + (turnL (lineB x)).length := by simp [trn]
    have e2 : (flat ((x :: r).map lineB)).length = (lineB x).length + 1 + (flat (r.map lineB)).length := by simp [flat]; omega
    have e3 : (turnL (lineB x)).length = (expand (lineB x)).length + 6 := by simp [turnL]
    rw [e1, e2, e3, List.length_cons]
    omega

theorem ent_len (p : Nat → Sl.Lim) : (entries p).length ≤ 16 := by
  have : (entries p).length = (places p).length := by simp [entries]
  rw [this]
  unfold places
  have := List.length_filter_le (fun i => decide (0 < (p i).rate)) (List.range 16)
  simpa using this

theorem plan_len {p : Nat → Sl.Lim} (h : OkP 2 p) : (flat (lns p)).length ≤ 640 := by
  rw [← plan_flat h]
  have := upD_len h.small 2
  omega

theorem turn_len {p : Nat → Sl.Lim} (h : OkP 2 p) : (turnT (lns p)).length ≤ 1000 := by
  have h1 := trn_len (entries p) (ent_ok h)
  have h2 := plan_len h
  have h3 := ent_len p
  unfold lns at h2 ⊢
  unfold turnT
  simp
  omega

theorem okS_ent {p : Nat → Sl.Lim} (h : OkP 2 p) : ∀ x ∈ entries p, OkS x.1 := fun x hx => (ent_ok h x hx).1.ok

theorem holds_self (p : Nat → Sl.Lim) : Holds p (entries p) := ⟨.refl _⟩
theorem holds_rev (p : Nat → Sl.Lim) : Holds p (entries p).reverse := ⟨List.reverse_perm _⟩

theorem Holds.defaults {p : Nat → Sl.Lim} {l : List (Sl.Subj × Sl.Lim)} (h : Holds p l) (hp : OkP 2 p) : defaultsB l = true := by
  have h0 := hp.1 0 (by omega)
  have h1 := hp.1 1 (by omega)
  have e0 := h.look (i := 0) (by omega)
  have e1 := h.look (i := 1) (by omega)
  have e2 := h.look (i := 2) (by omega)
  have e3 := h.look (i := 3) (by omega)
  rw [if_pos (show 0 < (p 0).rate from h0.1.1.1)] at e0
  rw [if_pos (show 0 < (p 1).rate from h1.1.1.1)] at e1
  rw [if_pos (show 0 < (p 2).rate from h0.2.1.1)] at e2
  rw [if_pos (show 0 < (p 3).rate from h1.2.1.1)] at e3
  unfold defaultsB dflt
  have s0 : subjAt 0 = ⟨0, 0, [], []⟩ := rfl
  have s1 : subjAt 1 = ⟨0, 1, [], []⟩ := rfl
  have s2 : subjAt 2 = ⟨1, 0, [], []⟩ := rfl
  have s3 : subjAt 3 = ⟨1, 1, [], []⟩ := rfl
  rw [s0] at e0; rw [s1] at e1; rw [s2] at e2; rw [s3] at e3
  rw [e0, e1, e2, e3]; rfl

theorem lines_nil : Sl.lines [] = [[]] := rfl
theorem nothing_nil : Sl.nothing (Sl.fields []) = true := rfl

theorem read_canon {p : Nat → Sl.Lim} (h : OkP 2 p) : readS (upD p 2) = (some (entries p), 0, 0) := by
  have hl := plan_len h
  rw [plan_flat h]
  have e1 : Sl.lines (flat (lns p)) = (entries p).map lineB ++ [[]] := by
    have := lines_flat (lns p) [] (fun l hl => (lns_ok h l hl).noTen)
    simpa [lines_nil, lns] using this
  have e2 : Sl.scan 0 (Sl.lines (flat (lns p))) [] = (say 0 (entries p), 0) := by
    rw [e1, scan_say _ _ _ _ (ent_ok h), scan_skip _ _ _ _ nothing_nil]
    simp [Sl.scan]
  have e3 : gatherS (say 0 (entries p)) [] = (entries p, 0) := by
    have := gather_says (say 0 (entries p)) [] [] (by rw [say_map]; simpa using ent_apart p)
    simp only [List.append_nil, List.nil_append, say_map] at this
    rw [this]; rfl
  unfold readS
  rw [e2, if_neg (by omega)]
  simp only []
  rw [if_neg (by simp), e3]
  simp only []
  rw [if_neg (by simp), if_pos ((holds_self p).defaults h)]

theorem read_turned {p : Nat → Sl.Lim} (h : OkP 2 p) : readS (turnT (lns p)) = (some (entries p).reverse, 0, 0) := by
  have hl := turn_len h
  have hrev : ∀ x ∈ (entries p).reverse, OkE x := fun x hx => ent_ok h x (by simpa using hx)
  have e1 : Sl.lines (turnT (lns p)) = [35, 32] :: (((entries p).reverse.flatMap fun x => [[32] ++ expand (lineB x) ++ [32], [32, 32]]) ++ [[35, 100, 101, 102, 97, 117, 108, 116]]) := by
    rw [lines_turned (lns p) (fun l hl => (lns_ok h l hl).noTen)]
    simp [turnLines, lns, ← List.map_reverse, List.flatMap_map]
  have n1 : Sl.nothing (Sl.fields [35, 32]) = true := by decide
  have n2 : Sl.nothing (Sl.fields [35, 100, 101, 102, 97, 117, 108, 116]) = true := by decide
  have e2 : Sl.scan 0 (Sl.lines (turnT (lns p))) [] = (say2 1 (entries p).reverse, 0) := by
    rw [e1, scan_skip _ _ _ _ n1, scan_say2 _ _ _ _ hrev, scan_skip _ _ _ _ n2]
    simp [Sl.scan]
  have e3 : gatherS (say2 1 (entries p).reverse) [] = ((entries p).reverse, 0) := by
    have := gather_says (say2 1 (entries p).reverse) [] [] (by rw [say2_map]; simpa using (holds_rev p).apart)
    simp only [List.append_nil, List.nil_append, say2_map] at this
    rw [this]; rfl
  unfold readS
  rw [e2, if_neg (by omega)]
  simp only []
  rw [if_neg (by simp), e3]
  simp only []
  rw [if_neg (by simp), if_pos ((holds_rev p).defaults h)]

/-- default tenant query 1 1 -/
def twiceW : List UInt8 := [100, 101, 102, 97, 117, 108, 116, 32, 116, 101, 110, 97, 110, 116, 32, 113, 117, 101, 114, 121, 32, 49, 32, 49, 10]

theorem read_twice {p : Nat → Sl.Lim} (h : OkP 2 p) : readS (upD p 2 ++ twiceW) = (none, 2, (entries p).length + 1) := by
  have hl := plan_len h
  rw [plan_flat h]
  have e0 : Sl.lines twiceW = [[100, 101, 102, 97, 117, 108, 116, 32, 116, 101, 110, 97, 110, 116, 32, 113, 117, 101, 114, 121, 32, 49, 32, 49], []] := rfl
  have e1 : Sl.lines (flat (lns p) ++ twiceW) = (entries p).map lineB ++ [[100, 101, 102, 97, 117, 108, 116, 32, 116, 101, 110, 97, 110, 116, 32, 113, 117, 101, 114, 121, 32, 49, 32, 49], []] := by
    rw [lines_flat (lns p) twiceW (fun l hl => (lns_ok h l hl).noTen), e0]; rfl
  have n1 : Sl.nothing (Sl.fields [100, 101, 102, 97, 117, 108, 116, 32, 116, 101, 110, 97, 110, 116, 32, 113, 117, 101, 114, 121, 32, 49, 32, 49]) = false := by decide
  have n2 : Sl.line (Sl.fields [100, 101, 102, 97, 117, 108, 116, 32, 116, 101, 110, 97, 110, 116, 32, 113, 117, 101, 114, 121, 32, 49, 32, 49]) = some (⟨1, 1, [], []⟩, ⟨1, 1⟩) := rfl
  have e2 : Sl.scan 0 (Sl.lines (flat (lns p) ++ twiceW)) [] = (say 0 (entries p) ++ [⟨(entries p).length + 1, ⟨1, 1, [], []⟩, ⟨1, 1⟩⟩], 0) := by
    rw [e1, scan_say _ _ _ _ (ent_ok h), scan_line _ _ _ _ _ n1 n2, scan_skip _ _ _ _ nothing_nil]
    simp [Sl.scan]
  have hd : look (entries p) ⟨1, 1, [], []⟩ = some (p 3) := by
    have e := (holds_self p).look (i := 3) (by omega)
    rw [if_pos (show 0 < (p 3).rate from (h.1 1 (by omega)).2.1.1)] at e
    exact e
  have e3 : gatherS (say 0 (entries p) ++ [⟨(entries p).length + 1, ⟨1, 1, [], []⟩, ⟨1, 1⟩⟩]) [] = ([], (entries p).length + 1) := by
    have := gather_says (say 0 (entries p)) [] [⟨(entries p).length + 1, ⟨1, 1, [], []⟩, ⟨1, 1⟩⟩] (by rw [say_map]; simpa using ent_apart p)
    rw [this]
    simp only [List.nil_append, say_map]
    unfold gatherS
    simp [hd]
  unfold readS
  rw [e2, if_neg (by simp [twiceW]; omega)]
  simp only []
  rw [if_neg (by simp), e3]
  simp only []
  rw [if_pos (by omega)]

theorem read_bad : readS [100, 101, 102, 97, 117, 108, 116, 32, 111, 114, 103, 32, 105, 110, 103, 101, 115, 116, 32, 49, 32, 49, 10, 111, 114, 103, 10] = (none, 1, 2) := rfl

theorem Holds.text {p : Nat → Sl.Lim} {l : List (Sl.Subj × Sl.Lim)} (h : Holds p l) (hp : OkP 2 p) : textOf l = upD p 2 := by
  have hs : sortS (l.map (·.1)) = (places p).map subjAt := by
    refine sortS_sorted ?_ (ent_sorted p)
    rw [← ent_fst]
    exact (h.perm.map (·.1)).symm
  unfold textOf textTo
  rw [hs, text_plan hp, List.flatMap_map]
  unfold List.flatMap
  congr 1
  refine List.map_congr_left ?_
  intro i hi
  obtain ⟨h1, h2⟩ := places_mem.1 hi
  show lineText (subjAt i) ((Go.Proofs.YthmhfilkgggagaaGreatDoor.look l (subjAt i)).getD noLim) = _
  rw [h.look h1, if_pos h2]; rfl

theorem ten_none {l : List UInt8} (h : ∀ x ∈ l, x ≠ 10) : l.count 10 = 0 := by
  rw [List.count_eq_zero]; intro hm; exact h 10 hm rfl

theorem flat_count : ∀ (ls : List (List UInt8)), (∀ l ∈ ls, ∀ x ∈ l, x ≠ 10) → (flat ls).count 10 = ls.length
  | [], _ => rfl
  | l :: r, h => by
    have e : flat (l :: r) = l ++ ([10] ++ flat r) := by simp [flat]
    rw [e, List.count_append, List.count_append, ten_none (h l (by simp)), flat_count r (fun l hl => h l (by simp [hl]))]
    simp; omega

theorem plan_count {p : Nat → Sl.Lim} (h : OkP 2 p) : (upD p 2).count 10 = (entries p).length := by
  rw [plan_flat h, flat_count _ (fun l hl => (lns_ok h l hl).noTen)]
  simp [lns]

theorem class_read (c : Nat) (hc : c < 2) : Sl.classOf (Sl.classW c) = some c := by
  match c, hc with
  | 0, _ => rfl
  | 1, _ => rfl

theorem org_name (o : Nat) : Sl.isName (orgW o) = true := by unfold orgW; split <;> rfl
theorem ten_name (t : Nat) : Sl.isName (tenW t) = true := by unfold tenW; split <;> rfl

theorem bucketS_read (c : Nat) (hc : c < 2) (org ten : List UInt8) (ho : Sl.isName org = true) (ht : ten = [] ∨ Sl.isName ten = true) : bucketS (Sl.classW c) org ten = some c := by
  unfold bucketS
  rw [class_read c hc]
  simp only []
  rw [if_pos ⟨ho, ht⟩]

theorem bucket_ok (c : Nat) (hc : c < 2) (org ten : List UInt8) (ho : Sl.isName org = true) (ht : ten = [] ∨ Sl.isName ten = true) : bucketA (Sl.classW c) org ten = (c, true) := by
  unfold bucketA
  rw [bucketS_read c hc org ten ho ht]

theorem subj_ten (c o t : Nat) (hc : c < 2) (ho : o < 2) (ht : t < 2) : (⟨3, c, orgW o, tenW t⟩ : Sl.Subj) = subjAt (8 + 4 * o + 2 * t + c) := by
  match c, o, t, hc, ho, ht with
  | 0, 0, 0, _, _, _ => rfl
  | 0, 0, 1, _, _, _ => rfl
  | 0, 1, 0, _, _, _ => rfl
  | 0, 1, 1, _, _, _ => rfl
  | 1, 0, 0, _, _, _ => rfl
  | 1, 0, 1, _, _, _ => rfl
  | 1, 1, 0, _, _, _ => rfl
  | 1, 1, 1, _, _, _ => rfl

theorem subj_org (c o : Nat) (hc : c < 2) (ho : o < 2) : (⟨2, c, orgW o, []⟩ : Sl.Subj) = subjAt (4 + 2 * o + c) := by
  match c, o, hc, ho with
  | 0, 0, _, _ => rfl
  | 0, 1, _, _ => rfl
  | 1, 0, _, _ => rfl
  | 1, 1, _, _ => rfl

theorem subj_alls (c : Nat) (hc : c < 2) : (⟨0, c, [], []⟩ : Sl.Subj) = subjAt c ∧ (⟨1, c, [], []⟩ : Sl.Subj) = subjAt (2 + c) := by
  match c, hc with
  | 0, _ => exact ⟨rfl, rfl⟩
  | 1, _ => exact ⟨rfl, rfl⟩

theorem tenW_ne (t : Nat) : tenW t ≠ [] := by unfold tenW; split <;> simp

theorem Holds.limTen {p : Nat → Sl.Lim} {l : List (Sl.Subj × Sl.Lim)} (h : Holds p l) (hp : OkP 2 p) (c o t : Nat) (hc : c < 2) (ho : o < 2) (ht : t < 2) : limitA l (Sl.classW c) (orgW o) (tenW t) = (Go.Proofs.YthmhfilkgggagaaGreatDoor.limTen p c o t, 0) := by
  have hr : 0 < (p (2 + c)).rate := (hp.1 c hc).2.1.1
  unfold limitA
  rw [bucket_ok c hc _ _ (org_name o) (.inr (ten_name t))]
  simp only [if_true]
  unfold limitS Go.Proofs.YthmhfilkgggagaaGreatDoor.limTen
  rw [if_neg (tenW_ne t), subj_ten c o t hc ho ht, (subj_alls c hc).2, h.look (by omega), h.look (by omega), if_pos hr]
  split <;> rfl

theorem Holds.limOrg {p : Nat → Sl.Lim} {l : List (Sl.Subj × Sl.Lim)} (h : Holds p l) (hp : OkP 2 p) (c o : Nat) (hc : c < 2) (ho : o < 2) : limitA l (Sl.classW c) (orgW o) [] = (Go.Proofs.YthmhfilkgggagaaGreatDoor.limOrg p c o, 0) := by
  have hr : 0 < (p c).rate := (hp.1 c hc).1.1.1
  unfold limitA
  rw [bucket_ok c hc _ _ (org_name o) (.inl rfl)]
  simp only [if_true]
  unfold limitS Go.Proofs.YthmhfilkgggagaaGreatDoor.limOrg
  rw [if_pos rfl, subj_org c o hc ho, (subj_alls c hc).1, h.look (by omega), h.look (by omega), if_pos hr]
  split <;> rfl

/-- other, Other -/
def otherW : List UInt8 := [111, 116, 104, 101, 114]
def otherU : List UInt8 := [79, 116, 104, 101, 114]

theorem other_ne (c : Nat) (i : Nat) (hi : i < 16) : subjAt i ≠ ⟨2, c, otherW, []⟩ := by
  intro e
  have h := congrArg Sl.Subj.org e
  simp only [] at h
  match i, hi with
  | 0, _ => exact absurd h (by decide)
  | 1, _ => exact absurd h (by decide)
  | 2, _ => exact absurd h (by decide)
  | 3, _ => exact absurd h (by decide)
  | 4, _ => exact absurd h (by decide)
  | 5, _ => exact absurd h (by decide)
  | 6, _ => exact absurd h (by decide)
  | 7, _ => exact absurd h (by decide)
  | 8, _ => exact absurd h (by decide)
  | 9, _ => exact absurd h (by decide)
  | 10, _ => exact absurd h (by decide)
  | 11, _ => exact absurd h (by decide)
  | 12, _ => exact absurd h (by decide)
  | 13, _ => exact absurd h (by decide)
  | 14, _ => exact absurd h (by decide)
  | 15, _ => exact absurd h (by decide)
  | n + 16, h2 => omega

theorem Holds.limOther {p : Nat → Sl.Lim} {l : List (Sl.Subj × Sl.Lim)} (h : Holds p l) (hp : OkP 2 p) (c : Nat) (hc : c < 2) : limitA l (Sl.classW c) otherW [] = (p c, 0) := by
  have hr : 0 < (p c).rate := (hp.1 c hc).1.1.1
  unfold limitA
  rw [bucket_ok c hc _ _ rfl (.inl rfl)]
  simp only [if_true]
  unfold limitS
  rw [if_pos rfl, h.none (other_ne c), (subj_alls c hc).1, h.look (by omega), if_pos hr]
  rfl

theorem lim_upper (l : List (Sl.Subj × Sl.Lim)) (c : Nat) (hc : c < 2) : limitA l (Sl.classW c) otherU [] = (noLim, 5) := by
  have hb : bucketA (Sl.classW c) otherU [] = (0, false) := by
    unfold bucketA bucketS
    rw [class_read c hc]
    rfl
  unfold limitA
  rw [hb]
  rfl

end Go.Proofs.YthmhfilkgggagaaGreatDoor
