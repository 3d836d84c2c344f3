/- What was put is read again, marker by marker: plain facts. -/
import Derived.Test.YtialkpfjllhfkaaPlain3
namespace Go.Proofs.Ytialkpfjllhfkaa

/-- The calls that were no error. -/
def okC (a : Call3) : Bool := errW a == 0
def goods (l : List Call3) : List Call3 := l.filter okC
theorem goods_snoc (l : List Call3) (a : Call3) : goods (l ++ [a]) = goods l ++ if okC a then [a] else [] := by
  unfold goods
  rw [List.filter_append]
  congr 1
  cases h : okC a <;> simp [h]
theorem goods_ok (l : List Call3) : ∀ x ∈ goods l, errW x = 0 := fun _ hx => by simpa [okC] using (List.mem_filter.1 hx).2
theorem stepW_bad (st : List UInt8 × List Bool) (a : Call3) (h : errW a ≠ 0) : stepW st a = st := by
  unfold errW at h
  unfold stepW
  split
  · rename_i hp
    rw [if_pos hp] at h
    unfold putErr at h
    unfold putBits
    split
    · simp
    · rename_i h1
      rw [if_neg h1] at h
      split
      · simp
      · rename_i h2
        rw [if_neg h2] at h
        exact absurd rfl h
  · rename_i hp
    rw [if_neg hp] at h
    unfold markErr at h
    unfold markS
    split
    · rfl
    · rename_i h1
      rw [if_neg h1] at h
      exact absurd rfl h
theorem fold_goods (l : List Call3) : ∀ st, l.foldl stepW st = (goods l).foldl stepW st := by
  induction l with
  | nil => intro st; rfl
  | cons a l ih =>
    intro st
    by_cases h : okC a = true
    · have e : goods (a :: l) = a :: goods l := by unfold goods; rw [List.filter_cons, if_pos h]
      rw [e, List.foldl_cons, List.foldl_cons, ih]
    · have e : goods (a :: l) = goods l := by unfold goods; rw [List.filter_cons, if_neg h]
      rw [e, List.foldl_cons, stepW_bad st a (by simpa [okC] using h), ih]

/-- The bits up to the next marker. -/
def segb : List Call3 → List Bool
  | [] => []
  | a :: l => if isPut a then putBits a.2.1 a.2.2 ++ segb l else []
/-- The bytes from the next marker on. -/
def cont : List Call3 → List UInt8
  | [] => []
  | a :: l => if isPut a then cont l else 255 :: a.2.1.toNat.toUInt8 :: (stuff (segb l) ++ cont l)
theorem fold_text (l : List Call3) : ∀ (D : List UInt8) (B : List Bool), (∀ x ∈ l, errW x = 0) → (l.foldl stepW (D, B)).1 ++ stuff (l.foldl stepW (D, B)).2 = D ++ stuff (B ++ segb l) ++ cont l := by
  induction l with
  | nil => intro D B _; simp [segb, cont]
  | cons a l ih =>
    intro D B hok
    have hok' := fun x hx => hok x (List.mem_cons_of_mem _ hx)
    have ha := hok a (List.mem_cons_self ..)
    rw [List.foldl_cons]
    by_cases hp : isPut a = true
    · have e : stepW (D, B) a = (D, B ++ putBits a.2.1 a.2.2) := by unfold stepW; rw [if_pos hp]
      rw [e, ih D _ hok', segb, cont, if_pos hp, if_pos hp, List.append_assoc B]
    · have e : stepW (D, B) a = (D ++ stuff B ++ [255, a.2.1.toNat.toUInt8], []) := by
        unfold errW at ha
        rw [if_neg hp] at ha
        unfold markErr at ha
        unfold stepW
        rw [if_neg hp]
        unfold markS
        split
        · rename_i h1; rw [if_pos h1] at ha; cases ha
        · rfl
      rw [e, ih _ _ hok', segb, cont, if_neg hp, if_neg hp]
      simp
theorem run_text (L : List Call3) : (runW L).1 ++ stuff (runW L).2 = stuff (segb (goods L)) ++ cont (goods L) := by
  have h1 := fold_goods L ([], [])
  have h2 := fold_text (goods L) [] [] (goods_ok L)
  rw [← h1] at h2
  simpa [runW] using h2

/-- A byte of data at a place. -/
theorem dbyte_data (T : List UInt8) (a v : Nat) (t : List UInt8) (hv : v < 256) (h : T.drop a = data v ++ t) : dbyte T a = (v, (data v).length) := by
  have h0 : T[a]? = (data v ++ t)[0]? := by rw [← h]; simp
  have h1 : T[a + 1]? = (data v ++ t)[1]? := by rw [← h]; simp
  unfold dbyte
  by_cases h5 : v = 255
  · subst h5
    have e : data 255 = [255, 0] := rfl
    rw [e] at h0 h1 ⊢
    simp at h0 h1
    rw [h0, h1]
    simp
  · have e : data v = [v.toUInt8] := by unfold data; rw [if_neg h5]
    rw [e] at h0 ⊢
    simp at h0
    have hne : ¬ UInt8.ofNat v = 255 := by
      intro e
      have := congrArg UInt8.toNat e
      simp at this
      omega
    rw [h0]
    simp only [if_neg hne]
    simp
    omega
theorem drop_data (T : List UInt8) (a v : Nat) (t : List UInt8) (h : T.drop a = data v ++ t) : T.drop (a + (data v).length) = t := by
  rw [← List.drop_drop, h, List.drop_left]
theorem dbyte_end (T : List UInt8) (a : Nat) (h : T.drop a = []) : dbyte T a = (0, 0) := by
  have h0 : T[a]? = (T.drop a)[0]? := by simp
  rw [h] at h0
  unfold dbyte
  rw [h0]
  simp
theorem mark_at (T : List UInt8) (a c : Nat) (hc1 : 1 ≤ c) (hc : c ≤ 254) (t : List UInt8) (h : T.drop a = 255 :: c.toUInt8 :: t) : mark T a = (c, 2) := by
  have hne : ¬ c.toUInt8 = 255 := by
    intro e
    have := congrArg UInt8.toNat e
    simp at this
    omega
  have hnz : ¬ c.toUInt8 = 0 := by
    intro e
    have := congrArg UInt8.toNat e
    simp at this
    omega
  have hf : ffs (T.drop a) = 1 := by rw [h, ffs, if_pos rfl, ffs, if_neg hne]
  have h1 : T[a + 1]? = (T.drop a)[1]? := by simp
  rw [h] at h1
  unfold mark
  rw [hf, h1]
  simp only [List.getElem?_cons_succ, List.getElem?_cons_zero]
  rw [if_neg (by simp only [not_or]; exact ⟨by omega, hnz⟩)]
  simp
  omega
/-- So many bits are fetched as there are. -/
theorem fetch_ok (T c : List UInt8) (n : Nat) : ∀ (m a : Nat) (H Q : List Bool), n - H.length ≤ m → n ≤ (H ++ Q).length → Q.length % 8 = 0 → T.drop a = whole Q ++ c → a ≤ T.length →
    ∃ b G Q', fetch T n a H = some (b, G) ∧ G ++ Q' = H ++ Q ∧ Q'.length % 8 = 0 ∧ T.drop b = whole Q' ++ c ∧ b ≤ T.length ∧ n ≤ G.length := by
  intro m
  induction m with
  | zero =>
    intro a H Q hm hn hQ ht ha
    exact ⟨a, H, Q, fetch_done T n a H (by omega), rfl, hQ, ht, ha, by omega⟩
  | succ m ih =>
    intro a H Q hm hn hQ ht ha
    by_cases h1 : n ≤ H.length
    · exact ⟨a, H, Q, fetch_done T n a H h1, rfl, hQ, ht, ha, h1⟩
    · have hq8 : 8 ≤ Q.length := by rw [List.length_append] at hn; omega
      have hv := val_lt (Q.take 8)
      rw [List.length_take, show min 8 Q.length = 8 by omega] at hv
      rw [whole_long Q hq8, List.append_assoc] at ht
      have hd := dbyte_data T a (val (Q.take 8)) _ (by omega) ht
      have hdr := drop_data T a (val (Q.take 8)) _ ht
      have hl : 1 ≤ (data (val (Q.take 8))).length := by unfold data; split <;> simp
      have hle := dbyte_le T a ha
      have hbit : bitsOf (val (Q.take 8)) 8 = Q.take 8 := by
        have := bitsOf_val (Q.take 8)
        rwa [List.length_take, show min 8 Q.length = 8 by omega] at this
      rw [hd] at hle
      have hf := fetch_more T n a H (by omega) (by rw [hd]; simp only []; omega)
      rw [hd] at hf
      simp only [hbit] at hf hle
      rw [hf]
      obtain ⟨b, G, Q', h2, h3, h4, h5, h6, h7⟩ := ih (a + (data (val (Q.take 8))).length) (H ++ Q.take 8) (Q.drop 8) (by rw [List.length_append, List.length_take]; omega)
        (by rw [List.append_assoc, List.take_append_drop]; exact hn) (by rw [List.length_drop]; omega) hdr hle
      exact ⟨b, G, Q', h2, by rw [h3, List.append_assoc, List.take_append_drop], h4, h5, h6, h7⟩

/-- Where a reader stands ahead of these calls. -/
def RI (T : List UInt8) (a : Nat) (H : List Bool) (l : List Call3) : Prop :=
  ∃ p Q, p < 8 ∧ segb l ++ List.replicate p true = H ++ Q ∧ Q.length % 8 = 0 ∧ T.drop a = whole Q ++ cont l ∧ a ≤ T.length ∧ H.length < 8
theorem RI.start (T : List UInt8) (a : Nat) (l : List Call3) (ha : a ≤ T.length) (h : T.drop a = stuff (segb l) ++ cont l) : RI T a [] l := by
  refine ⟨(8 - (segb l).length % 8) % 8, segb l ++ List.replicate ((8 - (segb l).length % 8) % 8) true, by omega, rfl, ?_, h, ha, by simp⟩
  rw [List.length_append, List.length_replicate]
  omega
theorem RI.put {T : List UInt8} {a : Nat} {H : List Bool} {c : Call3} {l : List Call3} (h : RI T a H (c :: l)) (hp : isPut c = true) (he : errW c = 0) :
    (rbits T c.2.2 a H).2.2.2 = 0 ∧ ((rbits T c.2.2 a H).1 : Int) = c.2.1 ∧ RI T (rbits T c.2.2 a H).2.1 (rbits T c.2.2 a H).2.2.1 l := by
  obtain ⟨p, Q, hp8, hseg, hQ, ht, ha, hH⟩ := h
  unfold errW at he
  rw [if_pos hp] at he
  rw [segb, if_pos hp] at hseg
  rw [cont, if_pos hp] at ht
  have hz : ¬ (c.2.2 < 0 ∨ 16 < c.2.2) := fun hz => by unfold putErr at he; rw [if_pos hz] at he; cases he
  have hv : ¬ (c.2.1 < 0 ∨ ((2 ^ c.2.2.toNat : Nat) : Int) ≤ c.2.1) := fun hv => by unfold putErr at he; rw [if_neg hz, if_pos hv] at he; cases he
  have hb : putBits c.2.1 c.2.2 = bitsOf c.2.1.toNat c.2.2.toNat := by unfold putBits; rw [if_neg hz, if_neg hv]
  rw [hb] at hseg
  obtain ⟨n, hn⟩ := Int.eq_ofNat_of_zero_le (show 0 ≤ c.2.2 by omega)
  obtain ⟨v, hvv⟩ := Int.eq_ofNat_of_zero_le (show 0 ≤ c.2.1 by omega)
  rw [hn, hvv] at hseg hv
  rw [hn, hvv]
  simp only [Int.toNat_natCast] at hseg hv
  have hx : v < 2 ^ n := by omega
  have hlen : n ≤ (H ++ Q).length := by rw [← hseg, List.length_append, List.length_append, bitsOf_length]; omega
  obtain ⟨b, G, Q', h2, h3, h4, h5, h6, h7⟩ := fetch_ok T (cont l) n (n - H.length) a H Q (Nat.le_refl _) hlen hQ ht ha
  have hbd := fetch_bounds T n (n - H.length) a H (Nat.le_refl _) ha (by omega) b G h2
  have hr := rbits_some T n a H (by omega) b G h2
  rw [hr]
  simp only
  have htake : G.take n = bitsOf v n := by
    have e : (G ++ Q').take n = (bitsOf v n ++ segb l ++ List.replicate p true).take n := by rw [h3, hseg]
    rw [List.take_append_of_le_length h7, List.append_assoc, List.take_append_of_le_length (by rw [bitsOf_length]; omega), List.take_of_length_le (l := bitsOf v n) (by rw [bitsOf_length]; omega)] at e
    exact e
  have hdrop : G.drop n ++ Q' = segb l ++ List.replicate p true := by
    have e : (G ++ Q').drop n = (bitsOf v n ++ segb l ++ List.replicate p true).drop n := by rw [h3, hseg]
    rw [List.drop_append_of_le_length h7, List.append_assoc, List.drop_append_of_le_length (by rw [bitsOf_length]; omega), show (bitsOf v n).drop n = [] from List.drop_eq_nil_of_le (by rw [bitsOf_length]; omega), List.nil_append] at e
    exact e
  refine ⟨trivial, by rw [htake, val_bitsOf_lt v n hx], p, Q', hp8, hdrop.symm, h4, h5, h6, by rw [List.length_drop]; omega⟩
theorem RI.pads {T : List UInt8} {a : Nat} {H : List Bool} {l : List Call3} (h : RI T a H l) (hs : segb l = []) : val H = 2 ^ H.length - 1 ∧ T.drop a = cont l := by
  obtain ⟨p, Q, hp8, hseg, hQ, ht, ha, hH⟩ := h
  rw [hs, List.nil_append] at hseg
  have hl : p = H.length + Q.length := by have := congrArg List.length hseg; simpa using this
  have hQ0 : Q = [] := List.eq_nil_of_length_eq_zero (by omega)
  subst hQ0
  rw [List.append_nil] at hseg
  rw [whole_short [] (by simp), List.nil_append] at ht
  refine ⟨?_, ht⟩
  rw [← hseg, val_true, List.length_replicate]
theorem RI.mark {T : List UInt8} {a : Nat} {H : List Bool} {c : Call3} {l : List Call3} (h : RI T a H (c :: l)) (hp : ¬ isPut c = true) (he : errW c = 0) :
    val H = 2 ^ H.length - 1 ∧ mark T a = (c.2.1.toNat, 2) ∧ (1 ≤ c.2.1 ∧ c.2.1 ≤ 254) ∧ RI T (a + 2) [] l := by
  have hpd := h.pads (by rw [segb, if_neg hp])
  have ha : a ≤ T.length := by obtain ⟨_, _, _, _, _, _, ha, _⟩ := h; exact ha
  unfold errW at he
  rw [if_neg hp] at he
  have hz : ¬ (c.2.1 < 1 ∨ 254 < c.2.1) := fun hz => by unfold markErr at he; rw [if_pos hz] at he; cases he
  have ht := hpd.2
  rw [cont, if_neg hp] at ht
  have h2 : T.drop (a + 2) = stuff (segb l) ++ cont l := by rw [← List.drop_drop, ht]; rfl
  have hle : a + 2 ≤ T.length := by
    have := congrArg List.length ht
    simp only [List.length_drop, List.length_cons] at this
    omega
  exact ⟨hpd.1, mark_at T a _ (by omega) (by omega) _ ht, by omega, RI.start T (a + 2) l hle h2⟩
theorem RI.done {T : List UInt8} {a : Nat} {H : List Bool} (h : RI T a H []) : val H = 2 ^ H.length - 1 ∧ a = T.length ∧ rbits T 1 a [] = (0, a, [], 2) := by
  have hpd := h.pads rfl
  have ha : a ≤ T.length := by obtain ⟨_, _, _, _, _, _, ha, _⟩ := h; exact ha
  have ht : T.drop a = [] := hpd.2
  refine ⟨hpd.1, ?_, rbits_none T 1 a [] (by omega) (fetch_none T 1 a [] (by simp) (by rw [dbyte_end T a ht]))⟩
  have := congrArg List.length ht
  simp at this
  omega
theorem RI.bounds {T : List UInt8} {a : Nat} {H : List Bool} {l : List Call3} (h : RI T a H l) : a ≤ T.length ∧ H.length < 8 := by
  obtain ⟨_, _, _, _, _, _, ha, hH⟩ := h
  exact ⟨ha, hH⟩
end Go.Proofs.Ytialkpfjllhfkaa
