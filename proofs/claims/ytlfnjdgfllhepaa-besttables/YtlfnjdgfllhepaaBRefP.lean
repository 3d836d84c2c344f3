/- The document's groups: plain, no program in it. -/
import Derived.Test.YtlfnjdgfllhepaaBTabP
namespace Go.Proofs.Ytlfnjdgfllhepaa

/-- A group: its first symbol, how often its symbols come, and they. -/
structure Grp where
  first : Nat
  n : Nat
  all : List Nat
abbrev Grp.Ahead (g h : Grp) : Prop := g.n < h.n ∨ g.n = h.n ∧ h.first < g.first
def gat (l : List Grp) (k : Nat) : Grp := l.getD k ⟨0, 0, []⟩
theorem gat_el {l : List Grp} {k : Nat} (h : k < l.length) : gat l k = l[k] := by
  unfold gat
  rw [List.getD_eq_getElem?_getD, List.getElem?_eq_getElem h]
  rfl
theorem gat_mem {l : List Grp} {k : Nat} (h : k < l.length) : gat l k ∈ l := by
  rw [gat_el h]
  exact List.getElem_mem h
theorem mem_gat {l : List Grp} {g : Grp} (h : g ∈ l) : ∃ i, i < l.length ∧ gat l i = g := by
  obtain ⟨i, hi, e⟩ := List.mem_iff_getElem.1 h
  exact ⟨i, hi, by rw [gat_el hi, e]⟩
/-- The place of the least group but one, of the first k. -/
def lpos (l : List Grp) (b : Nat) : Nat → Option Nat
  | 0 => none
  | k + 1 => if k = b then lpos l b k else match lpos l b k with
    | none => some k
    | some p => if Grp.Ahead (gat l k) (gat l p) then some k else some p
section
variable {l : List Grp} {b k p : Nat}
theorem lpos_skip (h : k = b) : lpos l b (k + 1) = lpos l b k := if_pos h
theorem lpos_first (h : ¬ k = b) (hn : lpos l b k = none) : lpos l b (k + 1) = some k := by
  show (if k = b then _ else _) = _
  rw [if_neg h, hn]
theorem lpos_take (h : ¬ k = b) (hn : lpos l b k = some p) (hle : Grp.Ahead (gat l k) (gat l p)) : lpos l b (k + 1) = some k := by
  show (if k = b then _ else _) = _
  rw [if_neg h, hn]
  exact if_pos hle
theorem lpos_keep (h : ¬ k = b) (hn : lpos l b k = some p) (hle : ¬ Grp.Ahead (gat l k) (gat l p)) : lpos l b (k + 1) = some p := by
  show (if k = b then _ else _) = _
  rw [if_neg h, hn]
  exact if_neg hle
end
theorem lpos_spec (l : List Grp) (b : Nat) : ∀ k, match lpos l b k with
    | none => ∀ i, i < k → i = b
    | some p => p < k ∧ p ≠ b ∧ ∀ i, i < k → i ≠ b → ¬ Grp.Ahead (gat l i) (gat l p)
  | 0 => fun i hi => by omega
  | k + 1 => by
    have ih := lpos_spec l b k
    by_cases h : k = b
    · rw [lpos_skip h]
      cases e : lpos l b k with
      | none =>
        rw [e] at ih
        intro i hi
        by_cases e1 : i = k
        · omega
        · exact ih i (by omega)
      | some p =>
        rw [e] at ih
        obtain ⟨h1, h2, h3⟩ := ih
        exact ⟨by omega, h2, fun i hi hb => h3 i (by omega) hb⟩
    · cases e : lpos l b k with
      | none =>
        rw [e] at ih
        rw [lpos_first h e]
        refine ⟨by omega, h, fun i hi hb => ?_⟩
        by_cases e1 : i = k
        · subst e1; unfold Grp.Ahead; omega
        · exact absurd (ih i (by omega)) hb
      | some p =>
        rw [e] at ih
        obtain ⟨h1, h2, h3⟩ := ih
        by_cases hle : Grp.Ahead (gat l k) (gat l p)
        · rw [lpos_take h e hle]
          refine ⟨by omega, h, fun i hi hb => ?_⟩
          by_cases e1 : i = k
          · subst e1; unfold Grp.Ahead; omega
          · have := h3 i (by omega) hb
            unfold Grp.Ahead at *
            omega
        · rw [lpos_keep h e hle]
          refine ⟨by omega, h2, fun i hi hb => ?_⟩
          by_cases e1 : i = k
          · subst e1; exact hle
          · exact h3 i (by omega) hb
theorem lpos_some {l : List Grp} {b k p : Nat} (h : lpos l b k = some p) : p < k ∧ p ≠ b ∧ ∀ i, i < k → i ≠ b → ¬ Grp.Ahead (gat l i) (gat l p) := by
  have := lpos_spec l b k
  rwa [h] at this
theorem lpos_none {l : List Grp} {b k : Nat} (h : lpos l b k = none) : ∀ i, i < k → i = b := by
  have := lpos_spec l b k
  rwa [h] at this

/-- The groups that are neither of two. -/
def oth (l : List Grp) (a b : Nat) : Nat → List Grp
  | 0 => []
  | k + 1 => oth l a b k ++ (if k = a ∨ k = b then [] else [gat l k])
theorem oth_skip {l : List Grp} {a b k : Nat} (h : k = a ∨ k = b) : oth l a b (k + 1) = oth l a b k := by
  show oth l a b k ++ (if k = a ∨ k = b then [] else [gat l k]) = _
  rw [if_pos h, List.append_nil]
theorem oth_take {l : List Grp} {a b k : Nat} (h : ¬ (k = a ∨ k = b)) : oth l a b (k + 1) = oth l a b k ++ [gat l k] := by
  show oth l a b k ++ (if k = a ∨ k = b then [] else [gat l k]) = _
  rw [if_neg h]
theorem oth_mem {l : List Grp} {a b : Nat} {g : Grp} : ∀ {k}, g ∈ oth l a b k ↔ ∃ i, i < k ∧ i ≠ a ∧ i ≠ b ∧ gat l i = g
  | 0 => by simp [oth]
  | k + 1 => by
    have ih := oth_mem (l := l) (a := a) (b := b) (g := g) (k := k)
    by_cases h : k = a ∨ k = b
    · rw [oth_skip h, ih]
      constructor
      · rintro ⟨i, h1, h2⟩; exact ⟨i, by omega, h2⟩
      · rintro ⟨i, h1, h2, h3, h4⟩; exact ⟨i, by omega, h2, h3, h4⟩
    · rw [oth_take h, List.mem_append, ih, List.mem_singleton]
      constructor
      · rintro (⟨i, h1, h2⟩ | rfl)
        · exact ⟨i, by omega, h2⟩
        · exact ⟨k, by omega, by omega, by omega, rfl⟩
      · rintro ⟨i, h1, h2, h3, h4⟩
        by_cases e : i = k
        · subst e; exact .inr h4.symm
        · exact .inl ⟨i, by omega, h2, h3, h4⟩
theorem oth_pair {l : List Grp} {a b : Nat} {R : Grp → Grp → Prop} (h : l.Pairwise R) : ∀ k, k ≤ l.length → (oth l a b k).Pairwise R
  | 0, _ => List.Pairwise.nil
  | k + 1, hk => by
    have ih := oth_pair (a := a) (b := b) h k (by omega)
    by_cases e : k = a ∨ k = b
    · rw [oth_skip e]; exact ih
    · rw [oth_take e]
      refine List.pairwise_append.2 ⟨ih, List.pairwise_singleton _ _, fun x hx y hy => ?_⟩
      obtain ⟨i, h1, _, _, rfl⟩ := oth_mem.1 hx
      rw [List.mem_singleton] at hy
      subst hy
      rw [gat_el (by omega), gat_el (by omega)]
      exact List.pairwise_iff_getElem.1 h i k (by omega) (by omega) h1
theorem oth_length (l : List Grp) {a b : Nat} (hab : a ≠ b) : ∀ k, (oth l a b k).length + (if a < k then 1 else 0) + (if b < k then 1 else 0) = k
  | 0 => rfl
  | k + 1 => by
    have ih := oth_length l hab k
    by_cases e1 : k = a
    · rw [oth_skip (.inl e1)]
      by_cases e2 : b < k
      · rw [if_pos e2] at ih; rw [if_pos (by omega), if_pos (by omega)]; rw [if_neg (by omega)] at ih; omega
      · rw [if_neg e2] at ih; rw [if_pos (by omega), if_neg (by omega)]; rw [if_neg (by omega)] at ih; omega
    · by_cases e2 : k = b
      · rw [oth_skip (.inr e2)]
        by_cases e3 : a < k
        · rw [if_pos e3, if_neg (by omega)] at ih; rw [if_pos (by omega), if_pos (by omega)]; omega
        · rw [if_neg e3, if_neg (by omega)] at ih; rw [if_neg (by omega), if_pos (by omega)]; omega
      · rw [oth_take (by omega), List.length_append]
        have q1 : (if a < k + 1 then 1 else 0) = if a < k then 1 else 0 := by
          by_cases q : a < k
          · rw [if_pos q, if_pos (by omega)]
          · rw [if_neg q, if_neg (by omega)]
        have q2 : (if b < k + 1 then 1 else 0) = if b < k then 1 else 0 := by
          by_cases q : b < k
          · rw [if_pos q, if_pos (by omega)]
          · rw [if_neg q, if_neg (by omega)]
        rw [q1, q2, List.length_singleton]
        omega

theorem rest_short (l : List Grp) {a b : Nat} (hab : a ≠ b) (k : Nat) : ((oth l a b k).length + (if a < k then 1 else 0) + (if b < k then 1 else 0) = k) ∧ (oth l a b k).length ≤ k := by
  have h := oth_length l hab k
  exact ⟨h, by omega⟩

/-- The document's groups are those of a state. -/
structure GInv (s : HS) (l : List Grp) : Prop where
  mem : ∀ g ∈ l, g.first < 257 ∧ s.W g.first = g.n ∧ g.n ≠ 0 ∧ g.all.Nodup ∧ ∀ x, x ∈ g.all ↔ s.own x = g.first
  dif : l.Pairwise fun g h => g.first ≠ h.first
  has : ∀ a, s.W a ≠ 0 → ∃ g ∈ l, g.first = a
theorem GInv.same {s : HS} {l : List Grp} (h : GInv s l) {i j : Nat} (hi : i < l.length) (hj : j < l.length) (e : (gat l i).first = (gat l j).first) : i = j := by
  rw [gat_el hi, gat_el hj] at e
  rcases Nat.lt_trichotomy i j with q | q | q
  · exact absurd e (List.pairwise_iff_getElem.1 h.dif i j hi hj q)
  · exact q
  · exact absurd e.symm (List.pairwise_iff_getElem.1 h.dif j i hj hi q)
theorem GInv.lst1 {s : HS} {l : List Grp} (h : GInv s l) {p : Nat} (hb : l.length ≤ 900) (hp : lpos l 1000000 l.length = some p) : lst s.W 300 257 = some (gat l p).first := by
  obtain ⟨p1, p2, p3⟩ := lpos_some hp
  obtain ⟨m1, m2, m3, _⟩ := h.mem _ (gat_mem p1)
  refine Lst.eq ⟨m1, by rw [m2]; exact m3, by omega, fun i hi hw _ => ?_⟩
  obtain ⟨g, hg, rfl⟩ := h.has i hw
  obtain ⟨j, hj, rfl⟩ := mem_gat hg
  have := p3 j hj (by omega)
  have := (h.mem _ hg).2.1
  unfold Grp.Ahead at *
  omega
theorem GInv.lst2 {s : HS} {l : List Grp} (h : GInv s l) {p a : Nat} (ha : a < l.length) (hp : lpos l a l.length = some p) : lst s.W (gat l a).first 257 = some (gat l p).first := by
  obtain ⟨p1, p2, p3⟩ := lpos_some hp
  obtain ⟨m1, m2, m3, _⟩ := h.mem _ (gat_mem p1)
  refine Lst.eq ⟨m1, by rw [m2]; exact m3, fun e => p2 (h.same p1 ha e), fun i hi hw hne => ?_⟩
  obtain ⟨g, hg, rfl⟩ := h.has i hw
  obtain ⟨j, hj, rfl⟩ := mem_gat hg
  have := p3 j hj (fun e => hne (by rw [e]))
  have := (h.mem _ hg).2.1
  unfold Grp.Ahead at *
  omega
/-- Of two groups or more both are found. -/
theorem GInv.pick2 {s : HS} {l : List Grp} (h : GInv s l) (hb : l.length ≤ 900) (h2 : 2 ≤ l.length) :
    ∃ a b, lpos l 1000000 l.length = some a ∧ lpos l a l.length = some b ∧ a < l.length ∧ b < l.length ∧ a ≠ b ∧ pick s = some ((gat l a).first, (gat l b).first) := by
  cases ea : lpos l 1000000 l.length with
  | none => have := lpos_none ea 0 (by omega); omega
  | some a =>
    have ha := (lpos_some ea).1
    cases eb : lpos l a l.length with
    | none =>
      have h0 := lpos_none eb 0 (by omega)
      have h1 := lpos_none eb 1 (by omega)
      omega
    | some b =>
      have hbb := lpos_some eb
      exact ⟨a, b, rfl, eb, ha, hbb.1, fun e => hbb.2.1 e.symm, pick_eq (h.lst1 hb ea) (h.lst2 ha eb)⟩
/-- Of one group, or of none, none is joined. -/
theorem GInv.pick1 {s : HS} {l : List Grp} (h : GInv s l) (h1 : l.length ≤ 1) : pick s = none := by
  cases e : pick s with
  | none => rfl
  | some ab =>
    obtain ⟨a, b⟩ := ab
    obtain ⟨⟨_, a2, _, _⟩, ⟨_, b2, b3, _⟩⟩ := pick_some e
    obtain ⟨g, hg, rfl⟩ := h.has a a2
    obtain ⟨g', hg', rfl⟩ := h.has b b2
    obtain ⟨i, hi, rfl⟩ := mem_gat hg
    obtain ⟨j, hj, rfl⟩ := mem_gat hg'
    exact absurd (by rw [show i = j by omega]) b3
/-- What is made of two groups. -/
def gjoin (l : List Grp) (a b : Nat) : Grp := ⟨(gat l a).first, (gat l a).n + (gat l b).n, (gat l a).all ++ (gat l b).all⟩
theorem GInv.join {s : HS} {l : List Grp} (h : GInv s l) {a b : Nat} (ha : a < l.length) (hb : b < l.length) (hab : a ≠ b) : GInv (s.join (gat l a).first (gat l b).first) (oth l a b l.length ++ [gjoin l a b]) := by
  obtain ⟨a1, a2, a3, a4, a5⟩ := h.mem _ (gat_mem ha)
  obtain ⟨b1, b2, b3, b4, b5⟩ := h.mem _ (gat_mem hb)
  have hne : (gat l a).first ≠ (gat l b).first := fun e => hab (h.same ha hb e)
  have hW : ∀ c, c ≠ (gat l a).first → c ≠ (gat l b).first → (s.join (gat l a).first (gat l b).first).W c = s.W c := fun c h1 h2 => by
    show upd (upd s.W _ _) _ 0 c = _
    rw [upd_ne _ _ h2, upd_ne _ _ h1]
  have hr : ∀ g, g ∈ oth l a b l.length → g ∈ l ∧ g.first ≠ (gat l a).first ∧ g.first ≠ (gat l b).first := by
    intro g hg
    obtain ⟨i, h1, h2, h3, rfl⟩ := oth_mem.1 hg
    exact ⟨gat_mem h1, fun e => h2 (h.same h1 ha e), fun e => h3 (h.same h1 hb e)⟩
  refine ⟨?_, ?_, ?_⟩
  · intro g hg
    rcases List.mem_append.1 hg with hg | hg
    · obtain ⟨h1, h2, h3⟩ := hr g hg
      obtain ⟨g1, g2, g3, g4, g5⟩ := h.mem g h1
      refine ⟨g1, by rw [hW _ h2 h3]; exact g2, g3, g4, fun x => ?_⟩
      rw [g5]
      show _ ↔ (if s.own x = (gat l b).first then (gat l a).first else s.own x) = g.first
      by_cases e : s.own x = (gat l b).first
      · rw [if_pos e, e]
        exact ⟨fun q => absurd q.symm h3, fun q => absurd q.symm h2⟩
      · rw [if_neg e]
    · rw [List.mem_singleton] at hg
      subst hg
      refine ⟨a1, ?_, ?_, ?_, fun x => ?_⟩
      · show upd (upd s.W _ _) _ 0 (gat l a).first = (gat l a).n + (gat l b).n
        rw [upd_ne _ _ hne, upd_same, a2, b2]
      · show (gat l a).n + (gat l b).n ≠ 0
        omega
      · refine List.nodup_append.2 ⟨a4, b4, fun x hx y hy e => ?_⟩
        subst e
        exact hne (((a5 x).1 hx).symm.trans ((b5 x).1 hy))
      · show x ∈ (gat l a).all ++ (gat l b).all ↔ (if s.own x = (gat l b).first then (gat l a).first else s.own x) = (gat l a).first
        rw [List.mem_append, a5, b5]
        by_cases e : s.own x = (gat l b).first
        · rw [if_pos e]; exact ⟨fun _ => rfl, fun _ => .inr e⟩
        · rw [if_neg e]; exact ⟨fun q => q.elim id fun q => absurd q e, .inl⟩
  · refine List.pairwise_append.2 ⟨oth_pair h.dif _ (Nat.le_refl _), List.pairwise_singleton _ _, fun g hg g' hg' => ?_⟩
    rw [List.mem_singleton] at hg'
    subst hg'
    exact (hr g hg).2.1
  · intro c hc
    by_cases e1 : c = (gat l a).first
    · exact ⟨_, List.mem_append_right _ (List.mem_singleton.2 rfl), e1.symm⟩
    · by_cases e2 : c = (gat l b).first
      · subst e2; exact absurd (upd_same _ _ _) hc
      · rw [hW c e1 e2] at hc
        obtain ⟨g, hg, rfl⟩ := h.has c hc
        obtain ⟨i, hi, rfl⟩ := mem_gat hg
        exact ⟨_, List.mem_append_left _ (oth_mem.2 ⟨i, hi, fun e => e1 (by rw [e]), fun e => e2 (by rw [e]), rfl⟩), rfl⟩
theorem GInv.more {s : HS} {l : List Grp} (h : GInv s l) {a b : Nat} (ha : a < l.length) (hb : b < l.length) : ∀ x, (if x ∈ (gjoin l a b).all then s.L x + 1 else s.L x) = (s.join (gat l a).first (gat l b).first).L x := by
  intro x
  have a5 := (h.mem _ (gat_mem ha)).2.2.2.2 x
  have b5 := (h.mem _ (gat_mem hb)).2.2.2.2 x
  have e : x ∈ (gjoin l a b).all ↔ s.own x = (gat l a).first ∨ s.own x = (gat l b).first := by
    show x ∈ (gat l a).all ++ (gat l b).all ↔ _
    rw [List.mem_append, a5, b5]
  show _ = if s.own x = _ ∨ s.own x = _ then s.L x + 1 else s.L x
  by_cases q : x ∈ (gjoin l a b).all
  · rw [if_pos q, if_pos (e.1 q)]
  · rw [if_neg q, if_neg fun q' => q (e.2 q')]
/-- The groups at the beginning. -/
def gst (f : Nat → Nat) : Nat → List Grp
  | 0 => []
  | k + 1 => gst f k ++ (if f k = 0 then [] else [⟨k, f k, [k]⟩])
theorem gst_skip {f : Nat → Nat} {k : Nat} (h : f k = 0) : gst f (k + 1) = gst f k := by
  show gst f k ++ (if f k = 0 then [] else _) = _
  rw [if_pos h, List.append_nil]
theorem gst_take {f : Nat → Nat} {k : Nat} (h : f k ≠ 0) : gst f (k + 1) = gst f k ++ [⟨k, f k, [k]⟩] := by
  show gst f k ++ (if f k = 0 then [] else _) = _
  rw [if_neg h]
theorem gst_mem {f : Nat → Nat} {g : Grp} : ∀ {k}, g ∈ gst f k ↔ ∃ i, i < k ∧ f i ≠ 0 ∧ g = ⟨i, f i, [i]⟩
  | 0 => by simp [gst]
  | k + 1 => by
    have ih := gst_mem (f := f) (g := g) (k := k)
    by_cases h : f k = 0
    · rw [gst_skip h, ih]
      constructor
      · rintro ⟨i, h1, h2⟩; exact ⟨i, by omega, h2⟩
      · rintro ⟨i, h1, h2, h3⟩
        by_cases e : i = k
        · subst e; exact absurd h h2
        · exact ⟨i, by omega, h2, h3⟩
    · rw [gst_take h, List.mem_append, ih, List.mem_singleton]
      constructor
      · rintro (⟨i, h1, h2⟩ | rfl)
        · exact ⟨i, by omega, h2⟩
        · exact ⟨k, by omega, h, rfl⟩
      · rintro ⟨i, h1, h2, h3⟩
        by_cases e : i = k
        · subst e; exact .inr h3
        · exact .inl ⟨i, by omega, h2, h3⟩
theorem gst_length (f : Nat → Nat) : ∀ k, (gst f k).length ≤ k
  | 0 => Nat.le_refl _
  | k + 1 => by
    have := gst_length f k
    by_cases h : f k = 0
    · rw [gst_skip h]; omega
    · rw [gst_take h, List.length_append, List.length_singleton]; omega
theorem gst_pair (f : Nat → Nat) : ∀ k, (gst f k).Pairwise fun g h => g.first ≠ h.first
  | 0 => List.Pairwise.nil
  | k + 1 => by
    by_cases h : f k = 0
    · rw [gst_skip h]; exact gst_pair f k
    · rw [gst_take h]
      refine List.pairwise_append.2 ⟨gst_pair f k, List.pairwise_singleton _ _, fun g hg g' hg' => ?_⟩
      obtain ⟨i, h1, _, rfl⟩ := gst_mem.1 hg
      rw [List.mem_singleton] at hg'
      subst hg'
      show i ≠ k
      omega
theorem GInv.start (f : Nat → Nat) : GInv (hstart (full f)) (gst f 256 ++ [⟨256, 1, [256]⟩]) := by
  have hF : ∀ i, i < 256 → full f i = f i := fun i hi => by
    unfold full
    rw [if_neg (by omega), if_pos hi]
  have h256 : full f 256 = 1 := if_pos rfl
  have ho : ∀ x i, i < 257 → full f i ≠ 0 → (x ∈ [i] ↔ (hstart (full f)).own x = i) := by
    intro x i hi hfi
    rw [List.mem_singleton]
    show _ ↔ (if full f x = 0 then 999 else x) = i
    by_cases e : full f x = 0
    · rw [if_pos e]
      exact ⟨fun q => absurd (q ▸ e) hfi, fun q => by omega⟩
    · rw [if_neg e]
  refine ⟨fun g hg => ?_, ?_, fun a ha => ?_⟩
  · rcases List.mem_append.1 hg with hg | hg
    · obtain ⟨i, h1, h2, rfl⟩ := gst_mem.1 hg
      exact ⟨by show i < 257; omega, hF i h1, h2, by simp, fun x => ho x i (by omega) (by rw [hF i h1]; exact h2)⟩
    · rw [List.mem_singleton] at hg
      subst hg
      exact ⟨by decide, h256, by decide, by simp, fun x => ho x 256 (by omega) (by rw [h256]; decide)⟩
  · refine List.pairwise_append.2 ⟨gst_pair f _, List.pairwise_singleton _ _, fun g hg g' hg' => ?_⟩
    obtain ⟨i, h1, _, rfl⟩ := gst_mem.1 hg
    rw [List.mem_singleton] at hg'
    subst hg'
    show i ≠ 256
    omega
  · have ha' : full f a ≠ 0 := ha
    by_cases e : a = 256
    · exact ⟨_, List.mem_append_right _ (List.mem_singleton.2 rfl), e.symm⟩
    · have hlt : a < 256 := by
        by_cases q : a < 257
        · omega
        · exact absurd (full_out f a (by omega)) ha'
      rw [hF a hlt] at ha'
      exact ⟨_, List.mem_append_left _ (gst_mem.2 ⟨a, hlt, ha', rfl⟩), rfl⟩

/-- The symbols of one length, in their order. -/
def lrow (L : Nat → Nat) (n : Nat) : Nat → List UInt8
  | 0 => []
  | k + 1 => lrow L n k ++ (if L k = n then [k.toUInt8] else [])
theorem lrow_take {L : Nat → Nat} {n k : Nat} (h : L k = n) : lrow L n (k + 1) = lrow L n k ++ [k.toUInt8] := by
  show lrow L n k ++ (if L k = n then _ else _) = _
  rw [if_pos h]
theorem lrow_skip {L : Nat → Nat} {n k : Nat} (h : L k ≠ n) : lrow L n (k + 1) = lrow L n k := by
  show lrow L n k ++ (if L k = n then _ else _) = _
  rw [if_neg h, List.append_nil]
/-- The symbols of lengths up to one. -/
def lall (L : Nat → Nat) : Nat → List UInt8
  | 0 => []
  | n + 1 => lall L n ++ lrow L (n + 1) 256
theorem lrow_mem {L : Nat → Nat} {n : Nat} {b : UInt8} : ∀ {k}, k ≤ 256 → (b ∈ lrow L n k ↔ b.toNat < k ∧ L b.toNat = n)
  | 0, _ => by simp [lrow]
  | k + 1, hk => by
    have ih := lrow_mem (L := L) (n := n) (b := b) (k := k) (by omega)
    have hb := toU_toNat k (by omega)
    by_cases h : L k = n
    · rw [lrow_take h, List.mem_append, ih, List.mem_singleton]
      constructor
      · rintro (⟨h1, h2⟩ | rfl)
        · exact ⟨by omega, h2⟩
        · rw [hb]; exact ⟨by omega, h⟩
      · rintro ⟨h1, h2⟩
        by_cases e : b.toNat = k
        · exact .inr (UInt8.toNat_inj.1 (by rw [hb, e]))
        · exact .inl ⟨by omega, h2⟩
    · rw [lrow_skip h, ih]
      constructor
      · rintro ⟨h1, h2⟩; exact ⟨by omega, h2⟩
      · rintro ⟨h1, h2⟩
        by_cases e : b.toNat = k
        · rw [e] at h2; exact absurd h2 h
        · exact ⟨by omega, h2⟩
theorem lrow_pair (L : Nat → Nat) (n : Nat) : ∀ k, k ≤ 256 → (lrow L n k).Pairwise fun a b => Ahd L a b
  | 0, _ => List.Pairwise.nil
  | k + 1, hk => by
    by_cases h : L k = n
    · rw [lrow_take h]
      refine List.pairwise_append.2 ⟨lrow_pair L n k (by omega), List.pairwise_singleton _ _, fun a ha b hb => ?_⟩
      rw [List.mem_singleton] at hb
      subst hb
      have h1 := (lrow_mem (by omega)).1 ha
      have h2 := toU_toNat k (by omega)
      unfold Ahd
      rw [h2, h, h1.2]
      exact .inr ⟨rfl, h1.1⟩
    · rw [lrow_skip h]; exact lrow_pair L n k (by omega)
theorem lall_mem {L : Nat → Nat} {b : UInt8} : ∀ {n}, b ∈ lall L n ↔ L b.toNat ≠ 0 ∧ L b.toNat ≤ n
  | 0 => by simp [lall]
  | n + 1 => by
    show b ∈ lall L n ++ lrow L (n + 1) 256 ↔ _
    have := b.toNat_lt
    rw [List.mem_append, lall_mem (n := n), lrow_mem (Nat.le_refl _)]
    omega
theorem lall_pair (L : Nat → Nat) : ∀ n, (lall L n).Pairwise fun a b => Ahd L a b
  | 0 => List.Pairwise.nil
  | n + 1 => by
    refine List.pairwise_append.2 ⟨lall_pair L n, lrow_pair L _ _ (Nat.le_refl _), fun a ha b hb => ?_⟩
    have h1 := lall_mem.1 ha
    have h2 := (lrow_mem (Nat.le_refl _)).1 hb
    unfold Ahd
    omega
theorem lall_syms (L : Nat → Nat) (h : ∀ x, L x ≤ 256) : lall L 299 = syms L := by
  refine syms_unique L _ (fun b => ?_) (lall_pair L _)
  rw [lall_mem]
  have := h b.toNat
  omega
theorem lrow_length (L : Nat → Nat) (n : Nat) : ∀ k, (lrow L n k).length ≤ k
  | 0 => Nat.le_refl _
  | k + 1 => by
    have := lrow_length L n k
    by_cases h : L k = n
    · rw [lrow_take h, List.length_append, List.length_singleton]; omega
    · rw [lrow_skip h]; omega
theorem lall_length (L : Nat → Nat) : ∀ n, (lall L n).length ≤ 256 * n
  | 0 => Nat.le_refl _
  | n + 1 => by
    have h1 := lall_length L n
    have h2 := lrow_length L (n + 1) 256
    show (lall L n ++ lrow L (n + 1) 256).length ≤ _
    rw [List.length_append]
    omega
/-- A length more, of which there are none. -/
theorem Kr.up {m : Nat → Nat} {n T : Nat} (h : Kr m n T) : ∀ k, Kr m (n + k) T
  | 0 => h
  | k + 1 => by
    have ih := h.up k
    refine ⟨ih.zero, fun i hi => ih.out i (by omega), ?_, ih.sum, ih.few⟩
    show 2 * ks m (n + k) + m (n + k + 1) = 2 ^ (n + k + 1)
    rw [ih.fill, ih.out (n + k + 1) (by omega), Nat.pow_succ]
    omega
end Go.Proofs.Ytlfnjdgfllhepaa
